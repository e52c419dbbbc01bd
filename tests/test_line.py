"""Many calls in one list, on one object; what is handed in and what is held."""

import unittest

from leafvalues.records import answers
from support import WORKED, ask, codes, field, leaf, leaves, load, shown

SMALL = field("from 0 to 3")


class Held(unittest.TestCase):
    def test_a_load_takes_the_place_of_the_one_before(self):
        told = ask(load(WORKED), leaves(1), load(SMALL), leaves(1), leaves(0), shown(), load(WORKED), leaves(1))
        self.assertEqual(told[1], told[7])
        self.assertEqual(told[2:5], [[1, 1, 1], [-2], [1, 2, 2]])
        self.assertEqual(bytes(told[5][1:]), b"record R {\na : from 0 to 3 ;\n}\n")

    def test_records_of_an_earlier_load_are_not_told_before(self):
        self.assertEqual(ask(load(SMALL), load("record S { a : R ; }")), [[1, 1, 1], [0, 6, 15]])
        self.assertEqual(ask(load(SMALL), load(SMALL)), [[1, 1, 1]] * 2)

    def test_a_load_that_fails_changes_nothing(self):
        faults = (
            " " * 4097, "@", "", "record R {", "record A { a : from 0 to 1 ; } record A", "record A { a : X",
            "record A { a : many 0", field("many 5 many 5 from 0 to 1"),
            "record S { a : from 0 to 9 ; } }",
        )
        for text in faults:
            told = ask(load(SMALL), shown(), load(text), shown(), leaves(0), leaf(0, 0), codes(0, 3), leaves(1))
            self.assertEqual(told[2][0], 0)
            self.assertEqual(len(told[2]), 3)
            self.assertEqual(told[3], told[1])
            self.assertEqual(told[4:], [[1, 2, 2], [1, 1, 97, 0, 3, 2, 0, 1, 1, 0], [1, 3], [-2]])

    def test_a_first_load_that_fails_holds_none(self):
        calls = (shown(), leaves(0), leaf(0, 0), codes(0, 1), leaves(-9))
        self.assertEqual(ask(load("record R { a : from 0 to 1 ; } }"), *calls), [[0, 3, 31]] + [[-1]] * 5)

    def test_refused_calls_change_nothing(self):
        told = ask(load(SMALL), leaves(7), leaf(0, 7), codes(0, 7), shown(), leaves(0))
        self.assertEqual(told[1:4], [[-2], [-3], [-4]])
        self.assertEqual(told[5], [1, 2, 2])


class Lists(unittest.TestCase):
    def test_the_form_of_the_answers(self):
        self.assertEqual(answers([1]), [1, -1])
        self.assertEqual(answers([0, 0, 2, 5, 1]), [3, 0, 3, 0, 1, -1, 1, -1])
        self.assertEqual(answers(load(SMALL) + [2, 0, 2, 1]), [3, 1, 1, 1, 3, 1, 2, 2, 1, -2])

    def test_what_is_refused_is_passed_over_whole(self):
        self.assertEqual(
            ask(codes(0, 0, 1, 2, 3), leaf(2, 3), codes(1), leaves(0), load(SMALL), codes(9, 1, 1), leaf(9, 1), leaves(0)),
            [[-1]] * 4 + [[1, 1, 1], [-2], [-2], [1, 2, 2]],
        )

    def test_a_hundred_calls(self):
        calls = [load(WORKED)] + [codes(1, 0, 0, k % 2, 5) for k in range(98)] + [leaves(0)]
        told = ask(*calls)
        self.assertEqual(len(told), 100)
        for k in range(98):
            self.assertEqual(told[k + 1], [8, 0, -1, -1, 0, k % 2, -1, -1, 0])
        self.assertEqual(told[99], [2, 7, 4, 3])

    def test_the_list_is_as_it_was(self):
        line = load(WORKED) + shown() + leaves(1) + leaf(1, 2) + codes(1, 0, 0, 1, 5) + codes(1, 9) + load("@")
        kept = list(line)
        answers(line)
        self.assertEqual(line, kept)

    def test_nothing_is_kept(self):
        line = load(WORKED) + shown() + leaves(1)
        first = answers(line)
        self.assertEqual(answers(shown() + leaves(0)), [1, -1, 1, -1])
        first_again = answers(line)
        self.assertEqual(first_again, first)
        first_again.append(7)
        self.assertEqual(answers(line), first)

    def test_the_answer_is_a_plain_list(self):
        self.assertIs(type(answers([1])), list)
        self.assertTrue(all(type(number) is int for number in answers(load(WORKED) + leaves(0))))


if __name__ == "__main__":
    unittest.main()
