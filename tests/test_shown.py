"""shown: the one form, byte by byte."""

import unittest

from support import WORKED, ask, ask_all, codes, count, field, form_of, index, last, leaf, leaves, load, nth, shown, value


class OneForm(unittest.TestCase):
    def check(self, told, form):
        self.assertEqual(form_of(field(told)), f"record R {{\na : {form} ;\n}}\n")

    def test_number(self):
        self.check("from 0 to 0", "from 0 to 0")
        self.check("from - 12 to\t-\n3", "from -12 to -3")
        self.check("from -1000000 to 1000000", "from -1000000 to 1000000")

    def test_zero_has_no_sign(self):
        self.check("from -0 to - 0", "from 0 to 0")

    def test_alignment_only_if_not_1(self):
        self.check("from 0 to 1 at 1", "from 0 to 1")
        for aligned in (2, 4, 8, 16, 32):
            self.check(f"from 0 to 1 at {aligned}", f"from 0 to 1 at {aligned}")

    def test_hot_only_if_not_1(self):
        self.check("from 0 to 1 hot 1", "from 0 to 1")
        self.check("from 0 to 1 at 2 hot 2", "from 0 to 1 at 2 hot 2")
        self.check("maybe from 0 to 1 hot 1000", "maybe from 0 to 1 hot 1000")

    def test_maybe_and_many(self):
        self.check("maybe  many 3 maybe from 1 to 2 at 4", "maybe many 3 maybe from 1 to 2 at 4")

    def test_one(self):
        self.check(
            "one{x:from 0to 1at 2,y:one{p:maybe from 0to 1,q:many 2from 0to 1},z:from -1to 1}",
            "one { x : from 0 to 1 at 2, y : one { p : maybe from 0 to 1, q : many 2 from 0 to 1 }, z : from -1 to 1 }",
        )

    def test_named(self):
        self.assertEqual(
            form_of("record P{a:from 0to 1;b:from 0to 2 hot 7;}#x\nrecord Q{c:P;d:many 2 P;e:one{f:P,g:maybe P}hot 2;}"),
            "record P {\na : from 0 to 1 ;\nb : from 0 to 2 hot 7 ;\n}\n"
            "record Q {\nc : P ;\nd : many 2 P ;\ne : one { f : P, g : maybe P } hot 2 ;\n}\n",
        )

    def test_count_stands_before_the_bytes(self):
        form = "record R {\na : from 0 to 1 ;\n}\n"
        self.assertEqual(last(load(field("from 0 to 1")), shown()), [len(form), *form.encode("ascii")])


class ReadAgain(unittest.TestCase):
    def test_same_form_and_same_records(self):
        texts = (
            WORKED,
            field("from -0 to 3 at 1 hot 1"),
            field("one { x : maybe many 2 from -5 to -1 at 32 , y : from 0 to 1 } hot 9"),
            "record P{a:many 8 maybe maybe from 0to 1;} record Q{b:P hot 3;} record S{c:Q hot 5;}",
        )
        for text in texts:
            form = form_of(text)
            self.assertEqual(form_of(form), form)
            self.assertEqual(ask(load(text)), ask(load(form)))
            counts = ask(load(text))[0][2:]
            calls = [call for r, many in enumerate(counts) for call in [leaves(r)] + [leaf(r, i) for i in range(many)]]
            self.assertEqual(ask(load(text), *calls), ask(load(form), *calls))
            self.same_values(text, form, len(counts))

    def same_values(self, text, form, records):
        calls = [call for r in range(records) for call in (count(r), nth(r, 0), nth(r, 3), nth(r, 10 ** 18))]
        told = ask_all(text, calls)
        self.assertEqual(told, ask_all(form, calls))
        rows = [(r, told[4 * r + k][1:]) for r in range(records) for k in (1, 2)]
        calls = [call(r, *row) for r, row in rows for call in (codes, value, index)]
        told = ask_all(text, calls)
        self.assertEqual(told, ask_all(form, calls))
        calls = [value(r, *answer[1:]) for (r, row), answer in zip(rows, told[::3])]
        self.assertEqual(ask_all(text, calls), [[len(row), *row] for r, row in rows])
        self.assertEqual(ask_all(form, calls), [[len(row), *row] for r, row in rows])


if __name__ == "__main__":
    unittest.main()
