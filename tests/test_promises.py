"""The document's numbered promises, over all values of many small records."""

import itertools
import random
import unittest

import making
from support import Told, ask, ask_all, codes, count, form_of, index, leaf, leaves, load, nth, shown, value

SEEDS = 120
MOST_VALUES = 400
MOST_LISTS = 2000


class Small:
    """A record with few values, and all that the program tells of it."""

    def __init__(self, text, r, told):
        self.text, self.r, self.told = text, r, told
        self.total = ask(load(text), count(r))[1][0]
        self.widths = ask(load(text), leaves(r))[1][2:]
        self.leaves = [Told(answer) for answer in ask_all(text, [leaf(r, i) for i in range(len(self.widths))])]
        self.values = [answer[1:] for answer in ask_all(text, [nth(r, n) for n in range(self.total)])]
        self.codes = [answer[1:] for answer in self.ask(codes, self.values)]

    def ask(self, call, rows):
        return ask_all(self.text, [call(self.r, *row) for row in rows])


def small_records():
    found = []
    for seed in range(SEEDS):
        maker = making.Maker(random.Random(seed), few_values=True)
        records = maker.records()
        text = maker.joined(maker.text_words(records))
        for r, record in enumerate(records):
            told = ("named", record)
            if len(text) <= 4096 and making.count_of(told) <= MOST_VALUES:
                found.append(Small(text, r, told))
    return found


class Promises(unittest.TestCase):
    @classmethod
    def setUpClass(cls):
        cls.records = small_records()

    def test_there_is_enough_to_look_at(self):
        self.assertGreater(len(self.records), 150)
        self.assertGreater(len([record for record in self.records if record.total > 20]), 40)
        self.assertEqual({told.kind for record in self.records for told in record.leaves}, {0, 1, 2})
        self.assertIn(3, {len(told.guards) for record in self.records for told in record.leaves})

    def test_1_codes_and_back(self):
        for record in self.records:
            told = [[len(row), *row] for row in record.values]
            self.assertEqual(record.ask(value, record.codes), told, record.text)
            self.assertEqual(len({tuple(row) for row in record.codes}), record.total)

    def test_1_codes_that_are_a_values(self):
        """Of all lists that might be codes, those of values alone are, and they are told back."""
        looked_at = 0
        for record in self.records:
            ranges = [range(-1, told.greatest - told.least + 2) for told in record.leaves]
            lists = list(itertools.islice(itertools.product(*ranges), MOST_LISTS + 1))
            if len(lists) > MOST_LISTS:
                continue
            looked_at += 1
            answers = record.ask(value, lists)
            good = [(list(row), answer[1:]) for row, answer in zip(lists, answers) if answer != [-4]]
            self.assertEqual(sorted(row for row, told in good), sorted(record.codes), record.text)
            back = record.ask(codes, [told for row, told in good])
            self.assertEqual(back, [[len(row), *row] for row, told in good], record.text)
        self.assertGreater(looked_at, 40)

    def test_2_guards_and_widths(self):
        for record in self.records:
            self.assertEqual(record.widths, [told.width for told in record.leaves])
            for row in record.codes:
                self.assertEqual(len(row), len(record.leaves))
                for told, code in zip(record.leaves, row):
                    there = all(row[tag] == asked for tag, asked in told.guards)
                    self.assertEqual(code >= 0, there, record.text)
                    if there:
                        self.assertLess(code, told.greatest - told.least + 1)
                        self.assertLess(code, 2 ** told.width)
                    else:
                        self.assertEqual(code, -1)

    def test_2_each_code_is_some_values(self):
        for record in self.records:
            for told, column in zip(record.leaves, zip(*record.codes)):
                self.assertEqual({code for code in column if code >= 0}, set(range(told.greatest - told.least + 1)))

    def test_3_values_and_numbers(self):
        for record in self.records:
            self.assertEqual(record.values, making.all_values(record.told), record.text)
            self.assertEqual(record.total, len(record.values))
            self.assertEqual(record.ask(index, record.values), [[n] for n in range(record.total)], record.text)
            self.assertEqual(len({tuple(row) for row in record.values}), record.total)
            beyond = ask(load(record.text), nth(record.r, record.total), nth(record.r, -1))[1:]
            self.assertEqual(beyond, [[-3], [-3]])

    def test_4_never_there_together(self):
        seen = set()
        for record in self.records:
            for first, second in itertools.combinations(range(len(record.leaves)), 2):
                together = any(row[first] >= 0 and row[second] >= 0 for row in record.codes)
                asked = dict(record.leaves[first].guards)
                unlike = any(asked.get(tag, code) != code for tag, code in record.leaves[second].guards)
                self.assertEqual(together, not unlike, (record.text, first, second))
                seen.add(together)
        self.assertEqual(seen, {True, False})

    def test_5_one_form(self):
        for record in self.records:
            form = form_of(record.text)
            calls = [shown(), leaves(record.r), count(record.r), nth(record.r, record.total)]
            calls += [leaf(record.r, i) for i in range(len(record.leaves))]
            calls += [nth(record.r, n) for n in range(record.total)]
            calls += [call(record.r, *row) for row in record.values for call in (codes, index)]
            calls += [value(record.r, *row) for row in record.codes]
            self.assertEqual(ask_all(form, calls), ask_all(record.text, calls), record.text)
            self.assertEqual(ask(load(form)), ask(load(record.text)))


if __name__ == "__main__":
    unittest.main()
