"""value: the value back from its codes."""

import itertools
import unittest

from support import WORKED, ask, ask_all, codes, field, load, value

FAR = 10 ** 18
OF_ONE = field("one { x : from 1 to 2 , y : many 2 from -1 to 1 , z : maybe from 0 to 9 , w : from 4 to 4 }")
NAMED = "record P { x : from 1 to 9 ; y : maybe from 0 to 1 ; } record R { a : maybe P ; b : many 2 P ; }"
SMALL = "record R { a : maybe from 1 to 2 ; b : one { x : from 0 to 1 , y : maybe from 5 to 5 } ; }"


class ValueCase(unittest.TestCase):
    def check(self, text, told, wanted, r=0):
        """The value of the codes told, and the codes of that value."""
        answers = ask(load(text), value(r, *told), codes(r, *wanted))[1:]
        self.assertEqual(answers, [[len(wanted), *wanted], [len(told), *told]])

    def refused(self, text, *told, r=0):
        self.assertEqual(ask(load(text), value(r, *told))[1], [-4], told)


class Values(ValueCase):
    def test_number(self):
        for code in range(8):
            self.check(field("from -3 to 4"), [code], [code - 3])

    def test_far_number(self):
        text = field("from -1000000 to 1000000")
        self.check(text, [0], [-1000000])
        self.check(text, [2000000], [1000000])

    def test_number_with_one_code(self):
        self.check(field("from 5 to 5"), [0], [5])

    def test_maybe(self):
        text = field("maybe from 5 to 7")
        self.check(text, [0, -1], [0])
        self.check(text, [1, 0], [1, 5])
        self.check(text, [1, 2], [1, 7])

    def test_maybe_within_maybe(self):
        text = field("maybe maybe from 5 to 7")
        self.check(text, [0, -1, -1], [0])
        self.check(text, [1, 0, -1], [1, 0])
        self.check(text, [1, 1, 1], [1, 1, 6])

    def test_many(self):
        self.check(field("many 3 from 1 to 2"), [0, 1, 0], [1, 2, 1])
        self.check(field("many 3 maybe from 1 to 2"), [0, -1, 1, 1, 0, -1], [0, 1, 2, 0])
        self.check(field("many 2 many 2 from -1 to 1"), [0, 1, 2, 0], [-1, 0, 1, -1])

    def test_one(self):
        self.check(OF_ONE, [0, 1, -1, -1, -1, -1, -1], [0, 2])
        self.check(OF_ONE, [1, -1, 0, 2, -1, -1, -1], [1, -1, 1])
        self.check(OF_ONE, [2, -1, -1, -1, 0, -1, -1], [2, 0])
        self.check(OF_ONE, [2, -1, -1, -1, 1, 9, -1], [2, 1, 9])
        self.check(OF_ONE, [3, -1, -1, -1, -1, -1, 0], [3, 4])

    def test_one_within_one(self):
        text = field("one { x : one { p : from 0 to 1 , q : from 0 to 2 } , y : one { p : from 0 to 3 , q : from 0 to 4 } }")
        self.check(text, [0, 1, -1, 2, -1, -1, -1], [0, 1, 2])
        self.check(text, [1, -1, -1, -1, 0, 3, -1], [1, 0, 3])

    def test_named(self):
        self.check(NAMED, [4, 0, -1], [5, 0])
        self.check(NAMED, [0, -1, -1, -1, 0, 0, -1, 8, 1, 1], [0, 1, 0, 9, 1, 1], r=1)
        self.check(NAMED, [1, 1, 1, 0, 2, 0, -1, 3, 0, -1], [1, 2, 1, 0, 3, 0, 4, 0], r=1)

    def test_more_values_than_are_numbered(self):
        self.check(field("many 8 many 3 from -1000000 to 1000000"), [0, 2000000] * 12, [-1000000, 1000000] * 12)

    def test_36_deep(self):
        text = "record R0 { a : " + "many 1 " * 5 + "from 3 to 9 ; } "
        text += " ".join(f"record R{k} {{ a : {'many 1 ' * 5}R{k - 1} ; }}" for k in range(1, 6))
        self.check(text, [4], [7], r=5)


class NotTheCodesOfOne(ValueCase):
    def test_too_few(self):
        self.refused(field("from 0 to 1"))
        self.refused(field("maybe from 0 to 1"), 0)
        self.refused(field("maybe from 0 to 1"), 1)
        self.refused(field("many 2 from 0 to 1"), 1)
        self.refused(WORKED, 0, -1, -1, 0, 1, -1, -1, r=1)

    def test_too_many(self):
        self.refused(field("from 0 to 1"), 0, 0)
        self.refused(field("from 0 to 1"), 0, -1)
        self.refused(field("maybe from 0 to 1"), 0, -1, -1)
        self.refused(WORKED, 0, -1, -1, 0, 1, -1, -1, 0, -1, r=1)
        self.refused(field("from 0 to 1"), *[0] * 2000)

    def test_below_minus_1(self):
        for code in (-2, -3, -FAR):
            self.refused(field("from -3 to 1"), code)
            self.refused(field("maybe from -3 to 1"), code, 0)
            self.refused(field("maybe from -3 to 1"), code, -1)
            self.refused(field("maybe from -3 to 1"), 0, code)
            self.refused(field("maybe from -3 to 1"), 1, code)
            self.refused(field("one { x : from 0 to 1 , y : from 0 to 1 }"), code, -1, -1)

    def test_not_below_the_number_of_codes(self):
        for code in (5, 6, FAR):
            self.refused(field("from -3 to 1"), code)
            self.refused(field("maybe from -3 to 1"), 1, code)
        self.refused(field("from 5 to 5"), 1)
        self.refused(field("from 5 to 5"), 5)
        for tag in (2, 3, FAR):
            self.refused(field("maybe from 0 to 1"), tag, 0)
            self.refused(field("maybe from 0 to 1"), tag, -1)

    def test_no_such_alternative(self):
        for tag in (3, 4, FAR):
            for rest in itertools.product((-1, 0), repeat=3):
                self.refused(field("one { x : from 0 to 1 , y : from 0 to 1 , z : from 0 to 1 }"), tag, *rest)

    def test_none_for_a_leaf_that_is_there(self):
        self.refused(field("from -1 to 1"), -1)
        self.refused(field("maybe from -1 to 1"), 1, -1)
        self.refused(field("maybe from -1 to 1"), -1, -1)
        self.refused(field("maybe from -1 to 1"), -1, 0)
        self.refused(OF_ONE, 0, -1, -1, -1, -1, -1, -1)
        self.refused(OF_ONE, 1, -1, -1, 0, -1, -1, -1)
        self.refused(OF_ONE, 2, -1, -1, -1, -1, -1, -1)

    def test_a_code_for_a_leaf_that_is_not_there(self):
        for code in (0, 1, 2, -2, FAR, -FAR):
            self.refused(field("maybe from 0 to 1"), 0, code)
            self.refused(field("maybe maybe from 0 to 1"), 0, -1, code)
            self.refused(field("maybe maybe from 0 to 1"), 0, code, -1)
            self.refused(OF_ONE, 0, 0, code, -1, -1, -1, -1)
            self.refused(OF_ONE, 3, -1, -1, -1, -1, code, 0)

    def test_codes_below_a_tag_that_is_not_there(self):
        self.refused(field("maybe maybe from 0 to 1"), 0, 1, 0)
        self.refused(field("one { x : maybe from 0 to 1 , y : from 0 to 1 }"), 1, 1, 0, 0)

    def test_each_code_of_a_value_spoiled(self):
        good = [1, 1, 1, 0, 2, 0, -1, 3, 0, -1]
        counts = [2, 9, 2, 2, 9, 2, 2, 9, 2, 2]
        self.assertNotEqual(ask(load(NAMED), value(1, *good))[1], [-4])
        for k, there in enumerate(good):
            for wrong in (counts[k], -2, -1 if there >= 0 else 0):
                self.refused(NAMED, *good[:k], wrong, *good[k + 1:], r=1)

    def test_value_numbers_are_no_codes(self):
        self.refused(WORKED, 1, 4, -3, 1, 2, 0, 5, r=1)
        self.refused(field("from 7 to 9"), 7)

    def test_all_lists(self):
        """Each list is the codes of a value just if it's among those of all values."""
        firsts = {(0, -1): (0,), (1, 0): (1, 1), (1, 1): (1, 2)}
        seconds = {(0, k, -1, -1): (0, k) for k in (0, 1)}
        seconds.update({(1, -1, 0, -1): (1, 0), (1, -1, 1, 0): (1, 1, 5)})
        wanted = {first + second: firsts[first] + seconds[second] for first in firsts for second in seconds}
        lists = list(itertools.product((-2, -1, 0, 1, 2), (-1, 0, 1, 2), *[(-1, 0, 1, 2)] * 4))
        found = ask_all(SMALL, [value(0, *told) for told in lists])
        for told, answer in zip(lists, found):
            tells = wanted.get(told)
            self.assertEqual(answer, [-4] if tells is None else [len(tells), *tells], told)


if __name__ == "__main__":
    unittest.main()
