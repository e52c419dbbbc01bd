"""Texts, read as records."""

from leafvalues.faults import (
    Fault, FORM_TOO_LONG, NOT_ALLOWED, NOT_TOLD_BEFORE, OUT_OF_BOUNDS, TEXT_TOO_LONG, TOLD_TWICE, TOO_MANY,
    TOO_MANY_LEAVES,
)
from leafvalues.shapes import Alternative, count_leaves, Field, Many, Maybe, Named, Number, One, one_form, Record
from leafvalues.tokens import tokens_of

MOST_BYTES = 4096
MOST_RECORDS = 6
MOST_LEAVES = 24
MOST_ALTERNATIVES = 4
MOST_TIMES = 8
DEEPEST = 6
HOTTEST = 1000
FARTHEST = 1000000
ALIGNMENTS = (1, 2, 4, 8, 16, 32)


class Reader:
    """The tokens of a text from left to right, and the records that are told so far, by name."""

    def __init__(self, tokens):
        self.tokens = tokens
        self.reached = 0
        self.records = {}

    def head(self):
        return self.tokens[self.reached]

    def take(self, kind):
        token = self.head()
        if token.kind != kind:
            raise Fault(NOT_ALLOWED, token.place)
        self.reached += 1
        return token

    def takes(self, kind):
        """Whether a token of this kind stands here; if so, it is taken."""
        if self.head().kind != kind:
            return False
        self.reached += 1
        return True

    def take_new_name(self, told_before):
        token = self.take("name")
        if token.told in told_before:
            raise Fault(TOLD_TWICE, token.place)
        return token.told

    def take_number(self, least, greatest):
        token = self.take("number")
        if not least <= token.told <= greatest:
            raise Fault(OUT_OF_BOUNDS, token.place)
        return token


def read_value(reader, least):
    """A number that may have a - before it, not below the least one."""
    negative = reader.takes("-")
    token = reader.take_number(0, FARTHEST)
    value = -token.told if negative else token.told
    if value < least:
        raise Fault(OUT_OF_BOUNDS, token.place)
    return value


def read_alignment(reader):
    if not reader.takes("at"):
        return 1
    token = reader.take("number")
    if token.told not in ALIGNMENTS:
        raise Fault(OUT_OF_BOUNDS, token.place)
    return token.told


def read_number(reader):
    """What stands behind from."""
    first = read_value(reader, -FARTHEST)
    reader.take("to")
    last = read_value(reader, first)
    return Number(first, last, read_alignment(reader))


def read_one(reader, depth):
    """What stands behind one."""
    reader.take("{")
    alternatives = []
    names = {}
    while True:
        if len(alternatives) == MOST_ALTERNATIVES:
            raise Fault(TOO_MANY, reader.head().place)
        name = reader.take_new_name(names)
        names[name] = True
        reader.take(":")
        alternatives.append(Alternative(name, read_shape(reader, depth + 1)))
        if len(alternatives) > 1 and reader.takes("}"):
            return One(alternatives)
        reader.take(",")


def read_named(reader):
    token = reader.take("name")
    if token.told not in reader.records:
        raise Fault(NOT_TOLD_BEFORE, token.place)
    return Named(reader.records[token.told])


def read_shape(reader, depth):
    """What a field or a part of it may hold; depth is 1 for a field's own."""
    if depth > DEEPEST:
        raise Fault(TOO_MANY, reader.head().place)
    if reader.takes("from"):
        return read_number(reader)
    if reader.takes("maybe"):
        return Maybe(read_shape(reader, depth + 1))
    if reader.takes("many"):
        times = reader.take_number(1, MOST_TIMES).told
        return Many(times, read_shape(reader, depth + 1))
    if reader.takes("one"):
        return read_one(reader, depth)
    return read_named(reader)


def read_field(reader, names):
    name = reader.take_new_name(names)
    reader.take(":")
    inner = read_shape(reader, 1)
    hot = 1
    if reader.takes("hot"):
        hot = reader.take_number(1, HOTTEST).told
    reader.take(";")
    return Field(name, inner, hot)


def read_fields(reader):
    """One field or more, and the closing brace behind them."""
    fields = []
    names = {}
    while not fields or not reader.takes("}"):
        field = read_field(reader, names)
        names[field.name] = True
        fields.append(field)
    return fields


def read_record(reader):
    start = reader.take("record")
    name = reader.take_new_name(reader.records)
    reader.take("{")
    fields = read_fields(reader)
    if count_leaves(fields) > MOST_LEAVES:
        raise Fault(TOO_MANY_LEAVES, start.place)
    reader.records[name] = Record(name, fields)


def read_records(text):
    """All records of the text, in order."""
    if len(text) > MOST_BYTES:
        raise Fault(TEXT_TOO_LONG, MOST_BYTES)
    reader = Reader(tokens_of(text))
    while not reader.records or reader.head().kind != "end":
        if len(reader.records) == MOST_RECORDS and reader.head().kind == "record":
            raise Fault(TOO_MANY, reader.head().place)
        read_record(reader)
    records = list(reader.records.values())
    if len(one_form(records)) > MOST_BYTES:
        raise Fault(FORM_TOO_LONG, 0)
    return records
