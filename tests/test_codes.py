"""codes: the codes of a value."""

import unittest

from support import WORKED, ask, codes, field, load

FAR = 10 ** 18


class CodeCase(unittest.TestCase):
    def check(self, text, value, told, r=0):
        self.assertEqual(ask(load(text), codes(r, *value))[1], [len(told), *told])

    def refused(self, text, *value, r=0):
        self.assertEqual(ask(load(text), codes(r, *value))[1], [-4], value)


class Codes(CodeCase):
    def test_number(self):
        text = field("from -3 to 4")
        for value in range(-3, 5):
            self.check(text, [value], [value + 3])

    def test_far_number(self):
        text = field("from -1000000 to 1000000")
        self.check(text, [-1000000], [0])
        self.check(text, [1000000], [2000000])

    def test_maybe(self):
        text = field("maybe from 5 to 7")
        self.check(text, [0], [0, -1])
        self.check(text, [1, 5], [1, 0])
        self.check(text, [1, 7], [1, 2])

    def test_maybe_within_maybe(self):
        text = field("maybe maybe from 5 to 7")
        self.check(text, [0], [0, -1, -1])
        self.check(text, [1, 0], [1, 0, -1])
        self.check(text, [1, 1, 6], [1, 1, 1])

    def test_many(self):
        text = field("many 3 from 1 to 2")
        self.check(text, [1, 2, 1], [0, 1, 0])

    def test_many_of_maybe(self):
        text = field("many 3 maybe from 1 to 2")
        self.check(text, [0, 1, 2, 0], [0, -1, 1, 1, 0, -1])
        self.check(text, [1, 1, 0, 1, 2], [1, 0, 0, -1, 1, 1])

    def test_one(self):
        text = field("one { x : from 1 to 2 , y : many 2 from -1 to 1 , z : maybe from 0 to 9 , w : from 4 to 4 }")
        self.check(text, [0, 2], [0, 1, -1, -1, -1, -1, -1])
        self.check(text, [1, -1, 1], [1, -1, 0, 2, -1, -1, -1])
        self.check(text, [2, 0], [2, -1, -1, -1, 0, -1, -1])
        self.check(text, [2, 1, 9], [2, -1, -1, -1, 1, 9, -1])
        self.check(text, [3, 4], [3, -1, -1, -1, -1, -1, 0])

    def test_one_within_one(self):
        text = field("one { x : one { p : from 0 to 1 , q : from 0 to 2 } , y : one { p : from 0 to 3 , q : from 0 to 4 } }")
        self.check(text, [0, 0, 1], [0, 0, 1, -1, -1, -1, -1])
        self.check(text, [0, 1, 2], [0, 1, -1, 2, -1, -1, -1])
        self.check(text, [1, 0, 3], [1, -1, -1, -1, 0, 3, -1])
        self.check(text, [1, 1, 4], [1, -1, -1, -1, 1, -1, 4])

    def test_named(self):
        text = "record P { x : from 1 to 9 ; y : maybe from 0 to 1 ; } record R { a : maybe P ; b : many 2 P ; }"
        self.check(text, [0, 1, 0, 9, 1, 1], [0, -1, -1, -1, 0, 0, -1, 8, 1, 1], r=1)
        self.check(text, [1, 2, 1, 0, 3, 0, 4, 0], [1, 1, 1, 0, 2, 0, -1, 3, 0, -1], r=1)
        self.check(text, [5, 0], [4, 0, -1], r=0)


class NoValue(CodeCase):
    def test_empty(self):
        self.refused(field("from 0 to 0"))
        self.refused(field("maybe from 0 to 0"))

    def test_too_short(self):
        self.refused(WORKED, 1, 4, -3, 1, 2, 0, r=1)
        self.refused(WORKED, 1, 4, r=1)
        self.refused(WORKED, 0, 0, 1, r=1)
        self.refused(field("maybe from 0 to 1"), 1)
        self.refused(field("many 2 from 0 to 1"), 1)

    def test_too_long(self):
        self.refused(WORKED, 1, 4, -3, 1, 2, 0, 5, 5, r=1)
        self.refused(field("from 0 to 1"), 1, 1)
        self.refused(field("from 0 to 1"), 1, -1)
        self.refused(field("maybe from 0 to 1"), 0, 0)
        self.refused(field("from 0 to 1"), *[0] * 2000)

    def test_number_out_of_its_bounds(self):
        for value in (-4, 5, FAR, -FAR):
            self.refused(field("from -3 to 4"), value)
        self.refused(field("many 2 from 0 to 1"), 0, 2)
        self.refused(field("maybe from 0 to 1"), 1, -1)

    def test_no_such_tag(self):
        for tag in (-1, 2, FAR, -FAR):
            self.refused(field("maybe from 0 to 1"), tag)
            self.refused(field("maybe from 0 to 1"), tag, 0)

    def test_no_such_alternative(self):
        for tag in (-1, 2, 3, FAR, -FAR):
            self.refused(field("one { x : from 0 to 1 , y : from 0 to 1 }"), tag, 0)
        self.refused(field("one { x : from 0 to 1 , y : from 0 to 1 , z : from 0 to 1 }"), 3, 0)

    def test_bounds_are_those_of_the_alternative(self):
        text = field("one { x : from 0 to 1 , y : from 5 to 6 }")
        self.refused(text, 0, 5)
        self.refused(text, 1, 0)

    def test_order_of_the_refusals(self):
        self.assertEqual(ask(codes(0), codes(-1, 7), codes(5, *[0] * 2000)), [[-1]] * 3)
        for r in (-1, 2, FAR, -FAR):
            self.assertEqual(ask(load(WORKED), codes(r, 7), codes(r))[1:], [[-2]] * 2)


if __name__ == "__main__":
    unittest.main()
