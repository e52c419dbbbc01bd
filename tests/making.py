"""Records and values made by a seeded source, told as plain tuples, and what the document says of them.

("number", first, last, aligned), ("maybe", T), ("many", n, T),
("one", [(name, T), ..]), ("named", record); a record is (name, [(name, T, hot), ..]).
"""

import itertools
import math

NAMES = ("a", "b", "c", "d", "some", "P", "Q7", "x1", "Zz", "longnameof16byte")


class Maker:
    def __init__(self, source, few_values=False):
        self.source = source
        self.few_values = few_values

    def number(self):
        source = self.source
        if self.few_values:
            first = source.randint(-2, 2)
            return ("number", first, first + source.choice((0, 1, 1, 2)), 1)
        spread = source.choice((0, 1, 2, 3, 7, 8, 100, 1000000))
        first = source.randint(-1000000, 1000000 - spread) if source.random() < 0.3 else source.randint(-3, 0)
        return ("number", first, first + spread if first + spread <= 1000000 else first, source.choice((1, 1, 2, 4, 8, 16, 32)))

    def sort(self, records, depth, room):
        """A type with at most room leaves."""
        source = self.source
        kinds = ["number"]
        fitting = [record for record in records if leaf_count_of_record(record) <= room]
        if fitting:
            kinds.extend(["named"] * 2)
        if depth < 6 and room >= 2:
            kinds.extend(["maybe", "many"])
        if depth < 6 and room >= 3:
            kinds.extend(["one"] * 2)
        kind = source.choice(kinds)
        if kind == "number":
            return self.number()
        if kind == "named":
            return ("named", source.choice(fitting))
        if kind == "maybe":
            return ("maybe", self.sort(records, depth + 1, room - 1))
        if kind == "many":
            times = source.randint(1, min(8, room))
            return ("many", times, self.sort(records, depth + 1, room // times))
        count = source.randint(2, min(4, room - 1))
        names = source.sample(NAMES, count)
        return ("one", [(name, self.sort(records, depth + 1, (room - 1) // count)) for name in names])

    def record(self, name, records):
        source = self.source
        fields, room = [], source.randint(1, 8 if self.few_values else 24)
        for field_name in source.sample(NAMES, source.randint(1, 5)):
            if room > 0:
                told = self.sort(records, 1, source.randint(1, room))
                room -= leaf_count(told)
                fields.append((field_name, told, source.choice((1, 1, 2, 3, 1000))))
        return (name, fields)

    def records(self):
        made = []
        for name in self.source.sample(NAMES, self.source.randint(1, 6)):
            made.append(self.record(name, made))
        return made

    def blank(self):
        return self.source.choice((" ", "  ", "\n", "\t", " # remark }\n", "#\n"))

    def words(self, told):
        """The tokens of a type."""
        if told[0] == "number":
            words = ["from"] + self.value_words(told[1]) + ["to"] + self.value_words(told[2])
            return words + (["at", str(told[3])] if told[3] != 1 or self.source.random() < 0.2 else [])
        if told[0] == "maybe":
            return ["maybe"] + self.words(told[1])
        if told[0] == "many":
            return ["many", str(told[1])] + self.words(told[2])
        if told[0] == "named":
            return [told[1][0]]
        words = []
        for name, inner in told[1]:
            words += ([","] if words else ["one", "{"]) + [name, ":"] + self.words(inner)
        return words + ["}"]

    def value_words(self, value):
        minus = value < 0 or value == 0 and self.source.random() < 0.1
        return (["-"] if minus else []) + [str(abs(value))]

    def text_words(self, records):
        words = []
        for name, fields in records:
            words += ["record", name, "{"]
            for field_name, told, hot in fields:
                words += [field_name, ":"] + self.words(told)
                words += ["hot", str(hot)] if hot != 1 or self.source.random() < 0.2 else []
                words.append(";")
            words.append("}")
        return words

    def joined(self, words):
        told = ""
        for word in words:
            needed = told[-1:].isalnum() and word[0].isalnum() and not (told[-1].isdigit() and word[0].isalpha())
            number_ends = told[-1:].isdigit() and word[0].isalpha()
            if needed or number_ends or self.source.random() < 0.7:
                told += self.blank()
            told += word
        return told

    def value(self, told):
        """The numbers that tell a value, and the codes of all leaves."""
        if told[0] == "number":
            value = self.source.choice((told[1], told[2], self.source.randint(told[1], told[2])))
            return [value], [value - told[1]]
        if told[0] == "maybe":
            if self.source.random() < 0.4:
                return [0], [0] + [-1] * leaf_count(told[1])
            value, codes = self.value(told[1])
            return [1] + value, [1] + codes
        if told[0] == "many":
            return self.row([told[2]] * told[1])
        if told[0] == "named":
            return self.row([field[1] for field in told[1][1]])
        chosen = self.source.randrange(len(told[1]))
        value, codes = [chosen], [chosen]
        for number, (name, inner) in enumerate(told[1]):
            if number == chosen:
                more, inner_codes = self.value(inner)
                value += more
                codes += inner_codes
            else:
                codes += [-1] * leaf_count(inner)
        return value, codes

    def row(self, parts):
        value, codes = [], []
        for part in parts:
            more, more_codes = self.value(part)
            value += more
            codes += more_codes
        return value, codes


def leaf_count(told):
    return len(leaves_of(told, "", 1, [], 0))


def leaf_count_of_record(record):
    return len(leaves_of_record(record))


def leaves_of(told, name, hot, guards, start):
    """Tuples of name, least, greatest, kind, aligned, hot, guards; the first one's number is start."""
    if told[0] == "number":
        return [(name, told[1], told[2], 0, told[3], hot, guards)]
    if told[0] == "maybe":
        tag = (name + ".maybe", 0, 1, 1, 1, hot, guards)
        return [tag] + leaves_of(told[1], name + ".some", hot, guards + [(start, 1)], start + 1)
    if told[0] == "named":
        return leaves_of_record(told[1], name + ".", hot, guards, start)
    if told[0] == "many":
        found = []
        for number in range(told[1]):
            found += leaves_of(told[2], f"{name}.{number}", hot, guards, start + len(found))
        return found
    found = [(name + ".one", 0, len(told[1]) - 1, 2, 1, hot, guards)]
    for number, (inner_name, inner) in enumerate(told[1]):
        found += leaves_of(inner, f"{name}.{inner_name}", hot, guards + [(start, number)], start + len(found))
    return found


def leaves_of_record(record, ahead="", around=1, guards=(), start=0):
    found = []
    for name, told, hot in record[1]:
        found += leaves_of(told, ahead + name, around * hot, list(guards), start + len(found))
    return found


def bits(count):
    """The least number of bits, at least 1, for the codes 0 to count - 1."""
    width = 1
    while 2 ** width < count:
        width += 1
    return width


def parts_of(told):
    """What stands one behind the other in a many or a named record."""
    return [told[2]] * told[1] if told[0] == "many" else [inner for name, inner, hot in told[1][1]]


def count_of(told):
    """How many values a type has."""
    if told[0] == "number":
        return told[2] - told[1] + 1
    if told[0] == "maybe":
        return 1 + count_of(told[1])
    if told[0] == "one":
        return sum(count_of(inner) for name, inner in told[1])
    return math.prod(count_of(part) for part in parts_of(told))


def all_values(told):
    """All values of a type, in order."""
    if told[0] == "number":
        return [[number] for number in range(told[1], told[2] + 1)]
    if told[0] == "maybe":
        return [[0]] + [[1] + value for value in all_values(told[1])]
    if told[0] == "one":
        return [[number] + value for number, (name, inner) in enumerate(told[1]) for value in all_values(inner)]
    return [sum(row, []) for row in itertools.product(*[all_values(part) for part in parts_of(told)])]


def rank(told, value):
    """The number of a value: at each of its numbers, how many values have a lower one there, and all before it."""
    todo, found = [told], 0
    for number in value:
        while todo[-1][0] in ("many", "named"):
            todo.extend(reversed(parts_of(todo.pop())))
        part = todo.pop()
        behind = math.prod(count_of(other) for other in todo)
        if part[0] == "number":
            found += (number - part[1]) * behind
        elif part[0] == "maybe":
            found += number * behind
            todo.extend([part[1]] * number)
        else:
            found += sum(count_of(inner) for name, inner in part[1][:number]) * behind
            todo.append(part[1][number][1])
    return found
