"""leaves and leaf."""

import unittest

from support import ask, field, last, leaf, leaves, leaves_told, load, shown

NESTED = (
    "record P { x : from 0 to 9 hot 2 ; y : maybe from -3 to 3 at 8 hot 5 ; }"
    "record Q { p : many 2 P hot 3 ; o : one { k : P , l : from 7 to 7 } ; }"
    "record S { m : maybe Q hot 7 ; n : one { u : maybe maybe from 1 to 4 , v : one { w : from 0 to 1 , z : P } , t : P } ; }"
)


class Leaves(unittest.TestCase):
    def names(self, text, r=0):
        return [told.name for told in leaves_told(text, r)]

    def test_widths(self):
        widths = (
            (0, 0, 1), (5, 5, 1), (0, 1, 1), (-1, 0, 1), (0, 2, 2), (0, 3, 2), (0, 4, 3), (-4, 3, 3), (-4, 4, 4),
            (0, 255, 8), (0, 256, 9), (999999, 1000000, 1), (-1000000, 1000000, 21), (0, 1000000, 20),
            (0, 524287, 19), (0, 524288, 20), (-524288, 524287, 20), (-1000000, -1000000, 1),
        )
        for least, greatest, width in widths:
            text = field(f"from {least} to {greatest}")
            self.assertEqual(last(load(text), leaves(0)), [1, width, width])
            told = leaves_told(text, 0)[0]
            self.assertEqual((told.least, told.greatest, told.width), (least, greatest, width))

    def test_tags(self):
        told = leaves_told(field("maybe from 3 to 5 at 16 hot 4"), 0)
        self.assertEqual([(t.least, t.greatest, t.width, t.kind, t.aligned, t.hot) for t in told], [
            (0, 1, 1, 1, 1, 4), (3, 5, 2, 0, 16, 4),
        ])
        for count, width in ((2, 1), (3, 2), (4, 2)):
            inner = ", ".join(f"x{k} : from 0 to 0 at 2" for k in range(count))
            told = leaves_told(field("one { " + inner + " } hot 6"), 0)
            self.assertEqual(len(told), count + 1)
            tag = told[0]
            self.assertEqual(
                (tag.name, tag.least, tag.greatest, tag.width, tag.kind, tag.aligned, tag.hot),
                ("a.one", 0, count - 1, width, 2, 1, 6),
            )
            for k, alternative in enumerate(told[1:]):
                self.assertEqual((alternative.name, alternative.guards), (f"a.x{k}", [(0, k)]))

    def test_leaf_of_a_plain_number(self):
        self.assertEqual(
            last(load("record R { abc : from -2 to 9 at 4 hot 8 ; }"), leaf(0, 0)),
            [1, 3, 97, 98, 99, -2, 9, 4, 0, 4, 8, 0],
        )

    def test_sum_of_the_widths(self):
        self.assertEqual(last(load(NESTED), leaves(0)), [3, 8, 4, 1, 3])
        self.assertEqual(last(load(NESTED), leaves(1)), [11, 26, 4, 1, 3, 4, 1, 3, 1, 4, 1, 3, 1])

    def test_names(self):
        self.assertEqual(self.names(NESTED, 0), ["x", "y.maybe", "y.some"])
        q_names = [
            "p.0.x", "p.0.y.maybe", "p.0.y.some", "p.1.x", "p.1.y.maybe", "p.1.y.some",
            "o.one", "o.k.x", "o.k.y.maybe", "o.k.y.some", "o.l",
        ]
        self.assertEqual(self.names(NESTED, 1), q_names)
        self.assertEqual(self.names(NESTED, 2), ["m.maybe"] + ["m.some." + name for name in q_names] + [
            "n.one", "n.u.maybe", "n.u.some.maybe", "n.u.some.some",
            "n.v.one", "n.v.w", "n.v.z.x", "n.v.z.y.maybe", "n.v.z.y.some",
            "n.t.x", "n.t.y.maybe", "n.t.y.some",
        ])

    def test_names_of_many(self):
        self.assertEqual(self.names(field("many 2 many 3 from 0 to 1")), [f"a.{j}.{k}" for j in (0, 1) for k in (0, 1, 2)])
        self.assertEqual(self.names(field("many 1 maybe from 0 to 1")), ["a.0.maybe", "a.0.some"])

    def test_hot_through_named_records(self):
        self.assertEqual([told.hot for told in leaves_told(NESTED, 0)], [2, 5, 5])
        self.assertEqual([told.hot for told in leaves_told(NESTED, 1)], [6, 15, 15] * 2 + [1, 2, 5, 5, 1])
        self.assertEqual(
            [told.hot for told in leaves_told(NESTED, 2)],
            [7] + [42, 105, 105] * 2 + [7, 14, 35, 35, 7] + [1, 1, 1, 1, 1, 1, 2, 5, 5, 2, 5, 5],
        )

    def test_hottest(self):
        text = "record R0 { a : from 0 to 1 hot 1000 ; } "
        text += " ".join(f"record R{k} {{ a : R{k - 1} hot 1000 ; }}" for k in range(1, 6))
        told = leaves_told(text, 5)[0]
        self.assertEqual((told.name, told.hot), ("a.a.a.a.a.a", 10 ** 18))

    def test_alignment_through_named_records(self):
        self.assertEqual([told.aligned for told in leaves_told(NESTED, 1)], [1, 1, 8] * 2 + [1, 1, 1, 8, 1])

    def test_kinds(self):
        self.assertEqual([told.kind for told in leaves_told(NESTED, 1)], [0, 1, 0] * 2 + [2, 0, 1, 0, 0])

    def test_guards_from_outside_in(self):
        self.assertEqual([told.guards for told in leaves_told(NESTED, 1)], [
            [], [], [(1, 1)], [], [], [(4, 1)], [], [(6, 0)], [(6, 0)], [(6, 0), (8, 1)], [(6, 1)],
        ])
        self.assertEqual([told.guards for told in leaves_told(NESTED, 2)], [
            [], [(0, 1)], [(0, 1)], [(0, 1), (2, 1)], [(0, 1)], [(0, 1)], [(0, 1), (5, 1)],
            [(0, 1)], [(0, 1), (7, 0)], [(0, 1), (7, 0)], [(0, 1), (7, 0), (9, 1)], [(0, 1), (7, 1)],
            [], [(12, 0)], [(12, 0), (13, 1)], [(12, 0), (13, 1), (14, 1)],
            [(12, 1)], [(12, 1), (16, 0)], [(12, 1), (16, 1)], [(12, 1), (16, 1)], [(12, 1), (16, 1), (19, 1)],
            [(12, 2)], [(12, 2)], [(12, 2), (22, 1)],
        ])

    def test_deep_names(self):
        text = "record R0 { abcdefghijklmnop : " + "maybe " * 3 + "from 0 to 1 ; } "
        text += " ".join(f"record R{k} {{ abcdefghijklmnop : {'maybe ' * 4}R{k - 1} ; }}" for k in range(1, 6))
        told = leaves_told(text, 5)[-1]
        name = "abcdefghijklmnop"
        self.assertEqual(told.name, (name + ".some" * 4 + ".") * 5 + name + ".some" * 3)
        self.assertEqual(told.guards, [(k, 1) for k in range(23)])


class Refusals(unittest.TestCase):
    FAR = (-10 ** 18, -2, -1, 10 ** 18)

    def test_no_records_before_all_else(self):
        self.assertEqual(ask(shown(), leaves(0), leaves(-1), leaf(0, 0), leaf(-1, -1)), [[-1]] * 5)

    def test_no_such_record(self):
        for r in self.FAR + (3, 4):
            self.assertEqual(ask(load(NESTED), leaves(r), leaf(r, 0), leaf(r, -1), leaf(r, 99))[1:], [[-2]] * 4)

    def test_last_record(self):
        self.assertEqual(ask(load(NESTED), leaves(2))[1][0], 24)

    def test_no_such_leaf(self):
        for i in self.FAR + (3, 4, 24):
            self.assertEqual(ask(load(NESTED), leaf(0, i))[1], [-3])
        self.assertEqual(ask(load(NESTED), leaf(2, 24))[1], [-3])

    def test_last_leaf(self):
        self.assertEqual(ask(load(NESTED), leaf(0, 2))[1][0], 1)
        self.assertEqual(ask(load(NESTED), leaf(2, 23))[1][0], 1)


if __name__ == "__main__":
    unittest.main()
