"""Many made texts and values against what the document says of them."""

import random
import unittest

import making
import oracle
from support import Told, ask, codes, count, data_of, index, leaf, leaves, load, nth, shown, value

TEXTS = 300
SPOILED = 12
MOST = 10 ** 18
SWAPS = (
    "record from to at maybe many one hot layout size of { } , ; : - . 0 1 2 3 8 9 1000 1001 1000000 1000001 01 R a b P"
).split()


def made(seed):
    maker = making.Maker(random.Random(seed))
    while True:
        records = maker.records()
        words = maker.text_words(records)
        text = maker.joined(words)
        if len(text) <= 4096:
            return maker, records, words, text


class Generated(unittest.TestCase):
    def test_load_and_shown(self):
        for seed in range(TEXTS):
            maker, records, words, text = made(seed)
            counts = [making.leaf_count_of_record(record) for record in records]
            told, form = oracle.judged(data_of(text))
            self.assertEqual(ask(load(text), shown()), [told, form], text)
            self.assertEqual(told, [1, len(counts), *counts])
            self.assertEqual(ask(load(bytes(form[1:])), shown()), [told, form], text)

    def test_leaves(self):
        for seed in range(TEXTS):
            maker, records, words, text = made(seed)
            for r, record in enumerate(records):
                wanted = making.leaves_of_record(record)
                widths = [making.bits(last - first + 1) for _, first, last, *_ in wanted]
                calls = [leaf(r, i) for i in range(len(wanted))]
                answers = ask(load(text), leaves(r), *calls)[1:]
                self.assertEqual(answers[0], [len(wanted), sum(widths), *widths])
                for answer, want, width in zip(answers[1:], wanted, widths):
                    told = Told(answer)
                    found = (told.name, told.least, told.greatest, told.kind, told.aligned, told.hot, told.guards)
                    self.assertEqual((told.first, told.width) + found, (1, width) + want)

    def test_codes(self):
        for seed in range(TEXTS):
            maker, records, words, text = made(seed)
            for r, record in enumerate(records):
                wanted = making.leaves_of_record(record)
                for _ in range(5):
                    tells, told = maker.value(("named", record))
                    answers = ask(load(text), codes(r, *tells), codes(r, *tells, 0), codes(r, *tells[:-1]))[1:]
                    self.assertEqual(answers, [[len(told), *told], [-4], [-4]], (text, tells))
                    self.check_guards(wanted, told)

    def test_value(self):
        for seed in range(TEXTS):
            maker, records, words, text = made(seed)
            for r, record in enumerate(records):
                wanted = making.leaves_of_record(record)
                for _ in range(3):
                    tells, told = maker.value(("named", record))
                    wrong = self.spoiled_codes(maker.source, wanted, told)
                    calls = [value(r, *row) for row in [told, told + [-1], told[:-1]] + wrong]
                    answers = ask(load(text), *calls)[1:]
                    self.assertEqual(answers, [[len(tells), *tells]] + [[-4]] * (len(wrong) + 2), (text, told))

    def spoiled_codes(self, source, wanted, told):
        """Lists that differ at one leaf, and so that it can't be a value's code there."""
        found = []
        k = source.randrange(len(told))
        for wrong in (-2, wanted[k][2] - wanted[k][1] + 1, -1 if told[k] >= 0 else 0, MOST, -MOST):
            found.append(told[:k] + [wrong] + told[k + 1:])
        return found

    def test_count_nth_and_index(self):
        numbered = {True: 0, False: 0}
        for seed in range(TEXTS):
            maker, records, words, text = made(seed)
            for r, record in enumerate(records):
                total = making.count_of(("named", record))
                numbered[total <= MOST] += 1
                if total <= MOST:
                    self.check_numbers(maker, text, r, ("named", record), total)
                else:
                    tells = maker.value(("named", record))[0]
                    calls = (count(r), nth(r, 0), nth(r, -1), nth(r, MOST), index(r, *tells), index(r))
                    self.assertEqual(ask(load(text), *calls)[1:], [[-6]] * 6, text)
        self.assertGreater(min(numbered.values()), 50)

    def check_numbers(self, maker, text, r, told, total):
        self.assertEqual(ask(load(text), count(r))[1], [total, making.bits(total)], text)
        numbers = [0, total - 1] + [maker.source.randrange(total) for _ in range(4)]
        found = [answer[1:] for answer in ask(load(text), *[nth(r, n) for n in numbers])[1:]]
        self.assertEqual([making.rank(told, row) for row in found], numbers, text)
        self.assertEqual(ask(load(text), *[index(r, *row) for row in found])[1:], [[n] for n in numbers], text)
        rows = [maker.value(told)[0] for _ in range(4)]
        ranks = [making.rank(told, row) for row in rows]
        self.assertEqual(ask(load(text), *[index(r, *row) for row in rows])[1:], [[n] for n in ranks], text)
        self.assertEqual(ask(load(text), *[nth(r, n) for n in ranks])[1:], [[len(row), *row] for row in rows], text)
        self.assertEqual(ask(load(text), nth(r, total), nth(r, -1), index(r, *rows[0], 0))[1:], [[-3], [-3], [-4]])

    def test_read_again(self):
        """What shown tells is read as records that answer all calls alike."""
        for seed in range(0, TEXTS, 3):
            maker, records, words, text = made(seed)
            form = bytes(ask(load(text), shown())[1][1:])
            for r, record in enumerate(records):
                tells, told = maker.value(("named", record))
                calls = [leaf(r, i) for i in range(len(told))] + [leaves(r), shown(), count(r)]
                calls += [codes(r, *tells), value(r, *told), index(r, *tells), nth(r, 0), nth(r, MOST // 7)]
                self.assertEqual(ask(load(form), *calls), ask(load(text), *calls), text)

    def check_guards(self, wanted, told):
        """A leaf is there just if all its guards are so; its code is one of its codes."""
        for (name, least, greatest, *_, guards), code in zip(wanted, told):
            self.assertEqual(code != -1, all(told[tag] == asked for tag, asked in guards), name)
            self.assertLessEqual(code, greatest - least)

    def test_codes_of_any_list(self):
        """Each short list is a value just if it's among all values."""
        text = "record R { a : maybe from 1 to 2 ; b : one { x : from 0 to 1 , y : many 2 from 0 to 1 } ; }"
        firsts = {(0,): (0, -1), (1, 1): (1, 0), (1, 2): (1, 1)}
        seconds = {(0, k): (0, k, -1, -1) for k in (0, 1)}
        seconds.update({(1, j, k): (1, -1, j, k) for j in (0, 1) for k in (0, 1)})
        values = {f + s: [6, *firsts[f], *seconds[s]] for f in firsts for s in seconds}
        lists = [()]
        for _ in range(6):
            for row in lists:
                self.assertEqual(ask(load(text), codes(0, *row))[1], values.get(row, [-4]), row)
            lists = [row + (number,) for row in lists for number in (-1, 0, 1, 2)] if len(lists) < 1000 else []

    def test_spoiled_words(self):
        codes_seen = {}
        for seed in range(TEXTS):
            maker, records, words, text = made(seed)
            for _ in range(SPOILED):
                spoiled = self.spoil(maker.source, list(words))
                told = self.check(maker.joined(spoiled))
                if told[0] == 0:
                    codes_seen[told[1]] = True
        self.assertLessEqual({2, 3, 4, 5, 6, 7, 15}, set(codes_seen))

    def spoil(self, source, words):
        for _ in range(source.choice((1, 1, 1, 2, 3))):
            k = source.randrange(len(words))
            way = source.randrange(6)
            if way == 0:
                words[k:k + 1] = [source.choice(SWAPS)]
            elif way == 1:
                words.insert(k, source.choice(SWAPS))
            elif way == 2 and len(words) > 1:
                del words[k]
            elif way == 3:
                words[k] = source.choice(words)
            elif way == 4 and words[k] in ("from", "maybe", "one", "many"):
                words[k:k] = ["many", "8"] * source.choice((1, 1, 2, 3))
            else:
                end = source.randrange(k, len(words)) + 1
                words[k:k] = words[k:end]
        return words

    def check(self, text):
        told, form = oracle.judged(data_of(text))
        self.assertEqual(ask(load(text), shown()), [told, form or [-1]], text)
        return told

    def test_spoiled_bytes(self):
        for seed in range(TEXTS):
            maker, records, words, text = made(seed)
            data = data_of(text)
            for _ in range(SPOILED):
                spoiled = list(data)
                spoiled[maker.source.randrange(len(data))] = maker.source.choice((0, 9, 10, 35, 48, 125, 44, 59, 255))
                told, form = oracle.judged(spoiled)
                self.assertEqual(ask(load(spoiled), shown()), [told, form or [-1]], bytes(spoiled))


if __name__ == "__main__":
    unittest.main()
