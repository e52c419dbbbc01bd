"""nth and index: values and their numbers."""

import itertools
import unittest

from support import WORKED, ask, ask_all, codes, count, field, index, load, nth

MOST = 10 ** 18
MILLION = "from 1 to 1000000"
TOO_MANY = field("maybe many 3 " + MILLION)


class NumberCase(unittest.TestCase):
    def check(self, text, number, told, r=0):
        """The value told has this number, both ways."""
        self.assertEqual(ask(load(text), nth(r, number), index(r, *told))[1:], [[len(told), *told], [number]])

    def in_order(self, text, told, r=0):
        """These are all values, in order."""
        calls = [nth(r, number) for number in range(-2, len(told) + 2)]
        wanted = [[-3], [-3]] + [[len(row), *row] for row in told] + [[-3], [-3]]
        self.assertEqual(ask_all(text, calls), wanted)
        self.assertEqual(ask_all(text, [index(r, *row) for row in told]), [[number] for number in range(len(told))])
        self.assertEqual(ask(load(text), count(r))[1][0], len(told))


class Order(NumberCase):
    def test_number(self):
        self.in_order(field("from -2 to 3"), [[number] for number in range(-2, 4)])
        self.in_order(field("from 7 to 7"), [[7]])

    def test_maybe(self):
        self.in_order(field("maybe from 5 to 7"), [[0], [1, 5], [1, 6], [1, 7]])
        self.in_order(field("maybe maybe from 5 to 6"), [[0], [1, 0], [1, 1, 5], [1, 1, 6]])

    def test_many(self):
        self.in_order(field("many 2 from 0 to 2"), [[j, k] for j in range(3) for k in range(3)])
        self.in_order(field("many 3 from -1 to 0"), [list(row) for row in itertools.product((-1, 0), repeat=3)])
        self.in_order(field("many 1 from 3 to 5"), [[3], [4], [5]])

    def test_many_of_maybe(self):
        self.in_order(field("many 2 maybe from 4 to 5"), [
            [0, 0], [0, 1, 4], [0, 1, 5], [1, 4, 0], [1, 4, 1, 4], [1, 4, 1, 5], [1, 5, 0], [1, 5, 1, 4], [1, 5, 1, 5],
        ])

    def test_maybe_of_many(self):
        self.in_order(field("maybe many 2 from 4 to 5"), [[0], [1, 4, 4], [1, 4, 5], [1, 5, 4], [1, 5, 5]])

    def test_one(self):
        self.in_order(field("one { x : from 5 to 6 , y : many 2 from 0 to 1 , z : maybe from 2 to 2 , w : from 1 to 1 }"), [
            [0, 5], [0, 6], [1, 0, 0], [1, 0, 1], [1, 1, 0], [1, 1, 1], [2, 0], [2, 1, 2], [3, 1],
        ])

    def test_one_within_one(self):
        self.in_order(
            field("one { x : one { p : from 0 to 1 , q : from 3 to 3 } , y : one { p : from 8 to 8 , q : from 0 to 1 } }"),
            [[0, 0, 0], [0, 0, 1], [0, 1, 3], [1, 0, 8], [1, 1, 0], [1, 1, 1]],
        )

    def test_the_last_field_changes_fastest(self):
        self.in_order("record R { a : from 0 to 1 ; b : from 5 to 7 ; c : maybe from 1 to 1 ; }", [
            [a, b, *c] for a in (0, 1) for b in (5, 6, 7) for c in ([0], [1, 1])
        ])

    def test_named(self):
        text = (
            "record P { x : from 0 to 1 ; y : maybe from 4 to 4 ; } record Q { a : maybe P ; b : from 8 to 9 ; }"
            "record S { a : many 2 P ; }"
        )
        inner = [[0, 0], [0, 1, 4], [1, 0], [1, 1, 4]]
        self.in_order(text, inner)
        self.in_order(text, [[0, 8], [0, 9]] + [[1, *row, b] for row in inner for b in (8, 9)], r=1)
        self.in_order(text, [first + second for first in inner for second in inner], r=2)

    def test_worked_records(self):
        firsts = [[0]] + [[1, x, y] for x in range(10) for y in range(-3, 4)]
        seconds = [[0, 0], [0, 1]] + [[1, j, k] for j in range(5) for k in range(5)]
        self.in_order(WORKED, [first + second + [5] for first in firsts for second in seconds], r=1)

    def test_unlike_parts(self):
        """Parts with unlike counts, so that no two of them can be changed for one another."""
        text = "record R { a : from 0 to 1 ; b : many 2 from 0 to 2 ; c : maybe from 0 to 3 ; }"
        self.in_order(text, [
            [a, *b, *c] for a in (0, 1) for b in itertools.product(range(3), repeat=2)
            for c in ([0], [1, 0], [1, 1], [1, 2], [1, 3])
        ])


class Far(NumberCase):
    def test_ends(self):
        text = field("many 3 " + MILLION)
        self.check(text, 0, [1, 1, 1])
        self.check(text, 1, [1, 1, 2])
        self.check(text, 123456000000999999, [123457, 1, 1000000])
        self.check(text, MOST - 1, [1000000] * 3)
        self.assertEqual(ask(load(text), nth(0, MOST), nth(0, -1), nth(0, -MOST))[1:], [[-3]] * 3)

    def test_maybe_in_front(self):
        text = field("maybe many 2 from -1000000 to 1000000")
        self.check(text, 0, [0])
        self.check(text, 1, [1, -1000000, -1000000])
        self.check(text, 2000001 ** 2, [1, 1000000, 1000000])
        self.assertEqual(ask(load(text), nth(0, 2000001 ** 2 + 1))[1], [-3])

    def test_24_leaves(self):
        text = field("many 8 many 3 from 0 to 1")
        for number in (0, 1, 2, 5592405, 2 ** 23, 2 ** 24 - 1):
            self.check(text, number, [int(digit) for digit in f"{number:024b}"])
        self.assertEqual(ask(load(text), nth(0, 2 ** 24))[1], [-3])

    def test_36_deep(self):
        text = "record R0 { a : " + "maybe " * 3 + "from 3 to 9 ; } "
        text += " ".join(f"record R{k} {{ a : {'maybe ' * 3}{'many 1 ' * 2}R{k - 1} ; }}" for k in range(1, 6))
        self.check(text, 0, [0], r=5)
        self.check(text, 17, [1] * 17 + [0], r=5)
        self.check(text, 18, [1] * 18 + [3], r=5)
        self.check(text, 24, [1] * 18 + [9], r=5)
        self.assertEqual(ask(load(text), nth(5, 25), count(5))[1:], [[-3], [25, 5]])


class Refusals(NumberCase):
    def test_no_such_value(self):
        for number in (-1, -2, -MOST, 1917, 1918, MOST):
            self.assertEqual(ask(load(WORKED), nth(1, number))[1], [-3])
        self.assertEqual(ask(load(field("from 5 to 5")), nth(0, 1), nth(0, 0))[1:], [[-3], [1, 5]])

    def test_no_value(self):
        lists = (
            [], [1], [1, 4, -3, 1, 2, 0], [1, 4, -3, 1, 2, 0, 5, 5], [0, 0, 1, 6], [2, 0, 1, 5], [-1, 0, 1, 5],
            [1, 10, -3, 0, 0, 5], [1, 0, 4, 0, 0, 5], [0, 2, 0, 5], [0, 0, 2, 5], [0, 1, 5, 0, 5], [MOST], [-MOST],
            [0] * 2000,
        )
        for told in lists:
            self.assertEqual(ask(load(WORKED), index(1, *told), codes(1, *told))[1:], [[-4]] * 2, told)

    def test_codes_are_no_value(self):
        self.assertEqual(ask(load(WORKED), index(1, 0, -1, -1, 0, 1, -1, -1, 0))[1], [-4])

    def test_all_lists(self):
        """Each list has a number just if it's among all values."""
        text = "record R { a : maybe from 1 to 2 ; b : one { x : from 0 to 1 , y : maybe from 2 to 2 } ; }"
        values = [(*a, *b) for a in ((0,), (1, 1), (1, 2)) for b in ((0, 0), (0, 1), (1, 0), (1, 1, 2))]
        for length in range(7):
            lists = list(itertools.product((-1, 0, 1, 2), repeat=length))
            wanted = [[values.index(row)] if row in values else [-4] for row in lists]
            self.assertEqual(ask_all(text, [index(0, *row) for row in lists]), wanted)

    def test_too_many_values_before_no_such_value(self):
        for number in (0, 1, -1, MOST, -MOST):
            self.assertEqual(ask(load(TOO_MANY), nth(0, number))[1], [-6])

    def test_too_many_values_before_no_value(self):
        for told in ([], [0], [1, 1, 1, 1], [2], [1, 0, 0, 0], [0] * 2000):
            self.assertEqual(ask(load(TOO_MANY), index(0, *told))[1], [-6])

    def test_no_such_record_before_the_rest(self):
        for text in (WORKED, TOO_MANY):
            for r in (-1, 2, MOST, -MOST):
                self.assertEqual(ask(load(text), nth(r, 0), nth(r, -1), index(r), index(r, 0))[1:], [[-2]] * 4)

    def test_no_records_before_all_else(self):
        calls = (nth(0, 0), nth(-1, -1), nth(MOST, MOST), index(0), index(-1, 7), index(5, *[0] * 2000))
        self.assertEqual(ask(*calls), [[-1]] * 6)
        self.assertEqual(ask(load("@"), *calls)[1:], [[-1]] * 6)


if __name__ == "__main__":
    unittest.main()
