"""count: how many values, and the bits for their numbers."""

import unittest

from support import WORKED, ask, count, field, index, load, nth

MOST = 10 ** 18
MILLION = "from 1 to 1000000"


class CountCase(unittest.TestCase):
    def check(self, text, total, bits, r=0):
        self.assertEqual(ask(load(text), count(r))[1], [total, bits], text)

    def too_many(self, text, r=0):
        self.assertEqual(ask(load(text), count(r), nth(r, 0), index(r, 0))[1:], [[-6]] * 3, text)


class Counts(CountCase):
    def test_number(self):
        self.check(field("from -3 to 4"), 8, 3)
        self.check(field("from -1000000 to 1000000"), 2000001, 21)

    def test_bits(self):
        bits = ((1, 1), (2, 1), (3, 2), (4, 2), (5, 3), (8, 3), (9, 4), (16, 4), (17, 5), (1024, 10), (1025, 11))
        for total, wanted in bits:
            self.check(field(f"from 1 to {total}"), total, wanted)
            self.check(field(f"from {-total} to -1 at 32 hot 9"), total, wanted)

    def test_one_value(self):
        self.check(field("from 5 to 5"), 1, 1)
        self.check(field("many 8 many 3 from 5 to 5"), 1, 1)
        self.check("record P { a : from 0 to 0 ; b : from 1 to 1 ; } record R { a : P ; b : many 2 P ; }", 1, 1, r=1)

    def test_maybe(self):
        self.check(field("maybe from 5 to 7"), 4, 2)
        self.check(field("maybe from 5 to 5"), 2, 1)
        self.check(field("maybe maybe maybe from 5 to 7"), 6, 3)

    def test_many(self):
        self.check(field("many 1 from 0 to 2"), 3, 2)
        self.check(field("many 3 from 0 to 2"), 27, 5)
        self.check(field("many 8 from 0 to 1"), 256, 8)
        self.check(field("many 2 many 3 from 0 to 2"), 729, 10)
        self.check(field("many 2 maybe from 0 to 2"), 16, 4)
        self.check(field("maybe many 2 from 0 to 2"), 10, 4)

    def test_one(self):
        self.check(field("one { x : from 0 to 1 , y : many 2 from 0 to 2 , z : maybe from 0 to 3 }"), 2 + 9 + 5, 4)
        self.check(field("one { x : from 0 to 0 , y : from 0 to 0 , z : from 0 to 0 , w : from 0 to 0 }"), 4, 2)

    def test_fields(self):
        self.check("record R { a : from 0 to 2 ; b : maybe from 0 to 3 ; c : from 0 to 6 ; }", 3 * 5 * 7, 7)

    def test_named(self):
        text = (
            "record P { x : from 0 to 9 ; y : maybe from 0 to 1 ; }"
            "record Q { p : many 2 P ; o : one { k : P , l : from 7 to 7 } ; }"
            "record R { a : maybe Q ; b : P ; }"
        )
        self.check(text, 30, 5)
        self.check(text, 900 * 31, 15, r=1)
        self.check(text, 27901 * 30, 20, r=2)

    def test_worked_records(self):
        self.check(WORKED, 70, 7)
        self.check(WORKED, 1917, 11, r=1)


class Bounds(CountCase):
    def test_just_as_many(self):
        self.check(field("many 3 " + MILLION), MOST, 60)
        self.check(f"record R {{ a : {MILLION} ; b : {MILLION} ; c : {MILLION} ; d : from 3 to 3 ; }}", MOST, 60)

    def test_one_less(self):
        self.check("record R { a : from 1 to 999999 ; b : from -1000 to 1000000 ; c : from 1 to 999001 ; }", MOST - 1, 60)

    def test_one_more(self):
        self.too_many(field("maybe many 3 " + MILLION))
        self.too_many(field("one { x : many 3 " + MILLION + " , y : from 0 to 0 }"))
        self.too_many(field("one { y : from 0 to 0 , x : many 3 " + MILLION + " }"))

    def test_more(self):
        self.too_many(f"record R {{ a : {MILLION} ; b : {MILLION} ; c : from 0 to 1000000 ; }}")
        self.too_many(f"record R {{ a : many 3 {MILLION} ; b : from 0 to 1 ; }}")
        self.too_many(field("many 2 many 3 " + MILLION))

    def test_far_more(self):
        self.too_many(field("many 8 many 3 from -1000000 to 1000000"))
        self.too_many(field("many 8 maybe maybe from -1000000 to 1000000"))

    def test_through_named_records(self):
        text = (
            f"record P {{ a : {MILLION} ; }} record Q {{ a : many 2 P ; }} record R {{ a : Q ; b : P ; }}"
            "record S { a : maybe R ; } record T { a : R ; } record U { a : many 8 Q ; }"
        )
        self.check(text, 10 ** 6, 20, r=0)
        self.check(text, 10 ** 12, 40, r=1)
        self.check(text, MOST, 60, r=2)
        self.too_many(text, r=3)
        self.check(text, MOST, 60, r=4)
        self.too_many(text, r=5)

    def test_few_values_around_many_leaves(self):
        self.check(field("many 8 many 3 from 0 to 1"), 2 ** 24, 24)
        self.check(field("many 5 many 4 from 1 to 7"), 7 ** 20, 57)
        self.too_many(field("many 8 many 3 from 1 to 6"))

    def test_59_and_60_bits(self):
        text = "record R { a : from -1000000 to 48575 ; b : from -1000000 to 48575 ; c : from 1 to 524288 ; }"
        self.check(text, 2 ** 59, 59)
        self.check(text + " record S { a : maybe R ; }", 2 ** 59 + 1, 60, r=1)


class Refusals(CountCase):
    def test_no_records_before_all_else(self):
        self.assertEqual(ask(count(0), count(-1), count(MOST), load("@"), count(0))[:3], [[-1]] * 3)
        self.assertEqual(ask(load("@"), count(0))[1], [-1])

    def test_no_such_record(self):
        for r in (-1, -2, 2, 3, MOST, -MOST):
            self.assertEqual(ask(load(WORKED), count(r))[1], [-2])

    def test_no_such_record_before_too_many_values(self):
        self.assertEqual(ask(load(field("many 4 " + MILLION)), count(1), count(-1), count(0))[1:], [[-2], [-2], [-6]])


if __name__ == "__main__":
    unittest.main()
