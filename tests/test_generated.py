"""Many made texts and values against what the document says of them."""

import random
import unittest

import making
import oracle
from support import Told, ask, codes, data_of, leaf, leaves, load, shown

TEXTS = 300
SPOILED = 12
SWAPS = (
    "record from to at maybe many one hot layout size of { } , ; : - . 0 1 2 3 8 9 1000 1001 1000000 1000001 01 R a b P"
).split()


def made(seed):
    maker = making.Maker(random.Random(seed))
    while True:
        records = maker.records()
        words = maker.text_words(records)
        text = maker.joined(words)
        if len(text) <= 4096:
            return maker, records, words, text


class Generated(unittest.TestCase):
    def test_load_and_shown(self):
        for seed in range(TEXTS):
            maker, records, words, text = made(seed)
            counts = [making.leaf_count_of_record(record) for record in records]
            told, form = oracle.judged(data_of(text))
            self.assertEqual(ask(load(text), shown()), [told, form], text)
            self.assertEqual(told, [1, len(counts), *counts])
            self.assertEqual(ask(load(bytes(form[1:])), shown()), [told, form], text)

    def test_leaves(self):
        for seed in range(TEXTS):
            maker, records, words, text = made(seed)
            for r, record in enumerate(records):
                wanted = making.leaves_of_record(record)
                widths = [making.bits(last - first + 1) for _, first, last, *_ in wanted]
                calls = [leaf(r, i) for i in range(len(wanted))]
                answers = ask(load(text), leaves(r), *calls)[1:]
                self.assertEqual(answers[0], [len(wanted), sum(widths), *widths])
                for answer, want, width in zip(answers[1:], wanted, widths):
                    told = Told(answer)
                    found = (told.name, told.least, told.greatest, told.kind, told.aligned, told.hot, told.guards)
                    self.assertEqual((told.first, told.width) + found, (1, width) + want)

    def test_codes(self):
        for seed in range(TEXTS):
            maker, records, words, text = made(seed)
            for r, record in enumerate(records):
                wanted = making.leaves_of_record(record)
                for _ in range(5):
                    value, told = maker.value(("named", record))
                    answers = ask(load(text), codes(r, *value), codes(r, *value, 0), codes(r, *value[:-1]))[1:]
                    self.assertEqual(answers, [[len(told), *told], [-4], [-4]], (text, value))
                    self.check_guards(wanted, told)

    def check_guards(self, wanted, told):
        """A leaf is there just if all its guards are so; its code is one of its codes."""
        for (name, least, greatest, *_, guards), code in zip(wanted, told):
            self.assertEqual(code != -1, all(told[tag] == asked for tag, asked in guards), name)
            self.assertLessEqual(code, greatest - least)

    def test_codes_of_any_list(self):
        """Each short list is a value just if it's among all values."""
        text = "record R { a : maybe from 1 to 2 ; b : one { x : from 0 to 1 , y : many 2 from 0 to 1 } ; }"
        firsts = {(0,): (0, -1), (1, 1): (1, 0), (1, 2): (1, 1)}
        seconds = {(0, k): (0, k, -1, -1) for k in (0, 1)}
        seconds.update({(1, j, k): (1, -1, j, k) for j in (0, 1) for k in (0, 1)})
        values = {f + s: [6, *firsts[f], *seconds[s]] for f in firsts for s in seconds}
        lists = [()]
        for _ in range(6):
            for row in lists:
                self.assertEqual(ask(load(text), codes(0, *row))[1], values.get(row, [-4]), row)
            lists = [row + (number,) for row in lists for number in (-1, 0, 1, 2)] if len(lists) < 1000 else []

    def test_spoiled_words(self):
        codes_seen = {}
        for seed in range(TEXTS):
            maker, records, words, text = made(seed)
            for _ in range(SPOILED):
                spoiled = self.spoil(maker.source, list(words))
                told = self.check(maker.joined(spoiled))
                if told[0] == 0:
                    codes_seen[told[1]] = True
        self.assertLessEqual({2, 3, 4, 5, 6, 7, 15}, set(codes_seen))

    def spoil(self, source, words):
        for _ in range(source.choice((1, 1, 1, 2, 3))):
            k = source.randrange(len(words))
            way = source.randrange(6)
            if way == 0:
                words[k:k + 1] = [source.choice(SWAPS)]
            elif way == 1:
                words.insert(k, source.choice(SWAPS))
            elif way == 2 and len(words) > 1:
                del words[k]
            elif way == 3:
                words[k] = source.choice(words)
            elif way == 4 and words[k] in ("from", "maybe", "one", "many"):
                words[k:k] = ["many", "8"] * source.choice((1, 1, 2, 3))
            else:
                end = source.randrange(k, len(words)) + 1
                words[k:k] = words[k:end]
        return words

    def check(self, text):
        told, form = oracle.judged(data_of(text))
        self.assertEqual(ask(load(text), shown()), [told, form or [-1]], text)
        return told

    def test_spoiled_bytes(self):
        for seed in range(TEXTS):
            maker, records, words, text = made(seed)
            data = data_of(text)
            for _ in range(SPOILED):
                spoiled = list(data)
                spoiled[maker.source.randrange(len(data))] = maker.source.choice((0, 9, 10, 35, 48, 125, 44, 59, 255))
                told, form = oracle.judged(spoiled)
                self.assertEqual(ask(load(spoiled), shown()), [told, form or [-1]], bytes(spoiled))


if __name__ == "__main__":
    unittest.main()
