"""Many calls in one list, on one object; what is handed in and what is held."""

import unittest

from leafvalues.records import answers
from support import WORKED, Untouchable, ask, codes, count, field, index, leaf, leaves, load, nth, shown, value

SMALL = field("from 0 to 3")
LARGE = field("many 4 from 1 to 1000000")


class Held(unittest.TestCase):
    def test_a_load_takes_the_place_of_the_one_before(self):
        told = ask(load(WORKED), leaves(1), load(SMALL), leaves(1), leaves(0), shown(), load(WORKED), leaves(1))
        self.assertEqual(told[1], told[7])
        self.assertEqual(told[2:5], [[1, 1, 1], [-2], [1, 2, 2]])
        self.assertEqual(bytes(told[5][1:]), b"record R {\na : from 0 to 3 ;\n}\n")

    def test_records_of_an_earlier_load_are_not_told_before(self):
        self.assertEqual(ask(load(SMALL), load("record S { a : R ; }")), [[1, 1, 1], [0, 6, 15]])
        self.assertEqual(ask(load(SMALL), load(SMALL)), [[1, 1, 1]] * 2)

    def test_a_load_that_fails_changes_nothing(self):
        faults = (
            " " * 4097, "@", "", "record R {", "record A { a : from 0 to 1 ; } record A", "record A { a : X",
            "record A { a : many 0", field("many 5 many 5 from 0 to 1"),
            "record S { a : from 0 to 9 ; } }",
        )
        for text in faults:
            calls = (
                shown(), leaves(0), leaf(0, 0), codes(0, 3), leaves(1), value(0, 2), count(0), nth(0, 1), index(0, 3),
                value(1, 2), count(1), nth(0, 4), index(0, 4),
            )
            told = ask(load(SMALL), *calls, load(text), *calls)
            between = len(calls) + 1
            self.assertEqual(told[between][0], 0)
            self.assertEqual(len(told[between]), 3)
            self.assertEqual(told[between + 1:], told[1:between])
            self.assertEqual(told[2:between], [
                [1, 2, 2], [1, 1, 97, 0, 3, 2, 0, 1, 1, 0], [1, 3], [-2], [1, 2], [4, 2], [1, 1], [3],
                [-2], [-2], [-3], [-4],
            ])

    def test_a_first_load_that_fails_holds_none(self):
        calls = (
            shown(), leaves(0), leaf(0, 0), codes(0, 1), leaves(-9), value(0, 1), value(-9), count(0), count(-9),
            nth(0, 0), nth(-9, -9), index(0, 1), index(-9),
        )
        self.assertEqual(ask(load("record R { a : from 0 to 1 ; } }"), *calls), [[0, 3, 31]] + [[-1]] * len(calls))

    def test_refused_calls_change_nothing(self):
        told = ask(
            load(SMALL), leaves(7), leaf(0, 7), codes(0, 7), value(0, 7), value(7, 0), nth(0, 7), nth(7, 0), index(0, 7),
            index(7, 0), count(7), shown(), leaves(0), count(0), nth(0, 3), index(0, 3), value(0, 3),
        )
        self.assertEqual(told[1:11], [[-2], [-3], [-4], [-4], [-2], [-3], [-2], [-4], [-2], [-2]])
        self.assertEqual(told[12:], [[1, 2, 2], [4, 2], [1, 3], [3], [1, 3]])

    def test_the_new_calls_ask_what_is_held_now(self):
        told = ask(
            load(SMALL), count(0), load(LARGE), count(0), nth(0, 0), index(0, 1, 1, 1, 1), value(0, 0, 1, 2, 3),
            load(WORKED), count(1), index(1, 0, 0, 1, 5), load(SMALL), count(0), count(1), nth(0, 2),
        )
        self.assertEqual(told, [
            [1, 1, 1], [4, 2], [1, 1, 4], [-6], [-6], [-6], [4, 1, 2, 3, 4],
            [1, 2, 2, 8], [1917, 11], [1], [1, 1, 1], [4, 2], [-2], [1, 2],
        ])


class Lists(unittest.TestCase):
    def test_the_form_of_the_answers(self):
        self.assertEqual(answers([1]), [1, -1])
        self.assertEqual(answers([0, 0, 2, 5, 1]), [3, 0, 3, 0, 1, -1, 1, -1])
        self.assertEqual(answers(load(SMALL) + [2, 0, 2, 1]), [3, 1, 1, 1, 3, 1, 2, 2, 1, -2])

    def test_what_is_refused_is_passed_over_whole(self):
        self.assertEqual(
            ask(codes(0, 0, 1, 2, 3), leaf(2, 3), codes(1), leaves(0), load(SMALL), codes(9, 1, 1), leaf(9, 1), leaves(0)),
            [[-1]] * 4 + [[1, 1, 1], [-2], [-2], [1, 2, 2]],
        )
        later = (value(9, 1, 1), index(9, 1, 1), count(9), nth(9, 1), value(0, 6, 6), index(0, 7, 7), nth(0, -7))
        told = ask(*later, load(LARGE), index(0, 8, 8), nth(0, 8), load(SMALL), *later, leaves(0))
        self.assertEqual(told[:10], [[-1]] * 7 + [[1, 1, 4], [-6], [-6]])
        self.assertEqual(told[10:], [[1, 1, 1]] + [[-2]] * 4 + [[-4], [-4], [-3], [1, 2, 2]])

    def test_a_hundred_calls(self):
        calls = [load(WORKED)] + [codes(1, 0, 0, k % 2, 5) for k in range(98)] + [leaves(0)]
        told = ask(*calls)
        self.assertEqual(len(told), 100)
        for k in range(98):
            self.assertEqual(told[k + 1], [8, 0, -1, -1, 0, k % 2, -1, -1, 0])
        self.assertEqual(told[99], [2, 7, 4, 3])

    def test_a_hundred_calls_of_all_sorts(self):
        calls, wanted = [load(WORKED)], [[1, 2, 2, 8]]
        for k in range(24):
            number = 71 * 27 - 1 - k
            tells = [1, 9, 3, 1, 4 - k // 5, 4 - k % 5, 5]
            told = [1, 9, 6, 1, -1, 4 - k // 5, 4 - k % 5, 0]
            calls += [nth(1, number), index(1, *tells), codes(1, *tells), value(1, *told)]
            wanted += [[7, *tells], [number], [8, *told], [7, *tells]]
        calls += [count(1), count(0), nth(0, 70)]
        wanted += [[1917, 11], [70, 7], [-3]]
        self.assertEqual(len(calls), 100)
        self.assertEqual(ask(*calls), wanted)

    def test_lists_of_2000_numbers(self):
        calls = [call(0, *[number] * 2000) for call in (codes, value, index) for number in (0, -1)]
        self.assertEqual(ask(load(SMALL), *calls)[1:], [[-4]] * 6)

    def test_the_list_is_as_it_was(self):
        line = load(WORKED) + shown() + leaves(1) + leaf(1, 2) + codes(1, 0, 0, 1, 5) + codes(1, 9) + load("@")
        line += value(1, 0, -1, -1, 0, 1, -1, -1, 0) + value(1, 9) + count(1) + nth(1, 27) + nth(1, -1)
        line += index(1, 1, 4, -3, 1, 2, 0, 5) + index(1, 9) + load(LARGE) + index(0, 1, 1, 1, 1) + nth(0, 0)
        kept = list(line)
        told = answers(line)
        self.assertEqual(line, kept)
        self.assertEqual(answers(Untouchable(line)), told)

    def test_nothing_is_kept(self):
        line = load(WORKED) + shown() + leaves(1) + count(1) + nth(1, 27) + index(1, 0, 0, 1, 5)
        first = answers(line)
        later = shown() + leaves(0) + value(0, 0, 0) + count(0) + nth(0, 0) + index(0, 0, 0)
        self.assertEqual(answers(later), [1, -1] * 6)
        first_again = answers(line)
        self.assertEqual(first_again, first)
        first_again.append(7)
        self.assertEqual(answers(line), first)

    def test_the_answer_is_a_plain_list(self):
        self.assertIs(type(answers([1])), list)
        line = load(WORKED) + leaves(0) + count(1) + nth(1, 27) + index(1, 0, 0, 1, 5) + value(0, 0, 0)
        self.assertTrue(all(type(number) is int for number in answers(line)))


if __name__ == "__main__":
    unittest.main()
