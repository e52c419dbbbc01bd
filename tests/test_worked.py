"""The document's worked example."""

import unittest

from support import WORKED, ask, codes, count, form_of, index, leaf, leaves, load, nth, value


class Worked(unittest.TestCase):
    def check(self, call, answer):
        self.assertEqual(ask(load(WORKED), call)[1], [int(word) for word in answer.split()])

    def test_load(self):
        self.assertEqual(ask(load(WORKED)), [[1, 2, 2, 8]])

    def test_leaves(self):
        self.check(leaves(1), "8 17 1 4 3 1 1 3 3 1")

    def test_leaf(self):
        self.check(leaf(1, 2), "1 8 97 46 115 111 109 101 46 121 -3 3 3 0 8 1 1 0 1")
        self.check(leaf(1, 5), "1 5 98 46 109 46 48 0 4 3 0 1 3 1 3 1")

    def test_codes(self):
        self.check(codes(1, 1, 4, -3, 1, 2, 0, 5), "8 1 4 0 1 -1 2 0 0")
        self.check(codes(1, 0, 0, 1, 5), "8 0 -1 -1 0 1 -1 -1 0")

    def test_value(self):
        self.check(value(1, 0, -1, -1, 0, 1, -1, -1, 0), "4 0 0 1 5")

    def test_count(self):
        self.check(count(1), "1917 11")

    def test_nth(self):
        self.check(nth(1, 0), "4 0 0 0 5")
        self.check(nth(1, 27), "6 1 0 -3 0 0 5")

    def test_index(self):
        self.check(index(1, 1, 4, -3, 1, 2, 0, 5), "795")

    def test_all_in_one_list(self):
        told = ask(
            load(WORKED), leaves(1), leaf(1, 2), leaf(1, 5), codes(1, 1, 4, -3, 1, 2, 0, 5), codes(1, 0, 0, 1, 5),
            value(1, 0, -1, -1, 0, 1, -1, -1, 0), count(1), nth(1, 0), nth(1, 27), index(1, 1, 4, -3, 1, 2, 0, 5),
        )
        self.assertEqual(told, [[int(word) for word in row.split()] for row in (
            "1 2 2 8",
            "8 17 1 4 3 1 1 3 3 1",
            "1 8 97 46 115 111 109 101 46 121 -3 3 3 0 8 1 1 0 1",
            "1 5 98 46 109 46 48 0 4 3 0 1 3 1 3 1",
            "8 1 4 0 1 -1 2 0 0",
            "8 0 -1 -1 0 1 -1 -1 0",
            "4 0 0 1 5",
            "1917 11",
            "4 0 0 0 5",
            "6 1 0 -3 0 0 5",
            "795",
        )])

    def test_shown(self):
        self.assertEqual(form_of(WORKED), (
            "record P {\n"
            "x : from 0 to 9 ;\n"
            "y : from -3 to 3 at 8 ;\n"
            "}\n"
            "record R {\n"
            "a : maybe P ;\n"
            "b : one { k : from 0 to 1, m : many 2 from 0 to 4 } hot 3 ;\n"
            "c : from 5 to 5 ;\n"
            "}\n"
        ))


if __name__ == "__main__":
    unittest.main()
