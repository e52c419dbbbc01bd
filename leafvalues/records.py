"""The calls on one object that holds records, and their answers."""

from leafvalues.coding import codes_of, value_of
from leafvalues.faults import (
    Fault, NoRecords, NoSuchLeafOrValue, NoSuchRecord, Refusal, TooManyValues, UnknownCall,
)
from leafvalues.numbering import width_for
from leafvalues.reader import read_records
from leafvalues.shapes import one_form

LOAD = 0
SHOWN = 1
LEAVES = 2
LEAF = 3
CODES = 4
VALUE = 5
COUNT = 6
NTH = 7
INDEX = 8

MOST_VALUES = 1000000000000000000


class Line:
    """The calls that are handed in, number by number."""

    def __init__(self, numbers):
        self.numbers = numbers
        self.reached = 0

    def ended(self):
        return self.reached == len(self.numbers)

    def take_whole(self):
        self.reached += 1
        return self.numbers[self.reached - 1]

    def take_row(self):
        start = self.reached + 1
        self.reached = start + self.numbers[self.reached]
        return self.numbers[start:self.reached]


class Holder:
    """The records that are held; none at first."""

    def __init__(self):
        self.records = []

    def hold(self, records):
        self.records = records

    def all_records(self):
        if not self.records:
            raise NoRecords()
        return self.records

    def record_at(self, number):
        records = self.all_records()
        if not 0 <= number < len(records):
            raise NoSuchRecord()
        return records[number]

    def leaves_of(self, number):
        return self.record_at(number).leaves

    def numbered_record_at(self, number):
        """The record, if its values are numbered: there may be too many."""
        record = self.record_at(number)
        if record.total > MOST_VALUES:
            raise TooManyValues()
        return record


def bytes_of(text):
    return [ord(sign) for sign in text]


def load(holder, text):
    try:
        records = read_records(text)
    except Fault as fault:
        return [0, fault.code, fault.place]
    holder.hold(records)
    return [1, len(records)] + [len(record.leaves) for record in records]


def shown(holder):
    told = bytes_of(one_form(holder.all_records()))
    return [len(told)] + told


def tell_leaves(holder, record):
    widths = [leaf.width() for leaf in holder.leaves_of(record)]
    return [len(widths), sum(widths)] + widths


def tell_leaf(holder, record, number):
    found = holder.leaves_of(record)
    if not 0 <= number < len(found):
        raise NoSuchLeafOrValue()
    leaf = found[number]
    name = bytes_of(leaf.name)
    told = [1, len(name)] + name
    told.extend([leaf.least, leaf.greatest, leaf.width(), leaf.kind, leaf.aligned, leaf.hot, len(leaf.guards)])
    for tag, code in leaf.guards:
        told.extend([tag, code])
    return told


def tell_codes(holder, record, value):
    codes = codes_of(holder.leaves_of(record), value)
    return [len(codes)] + codes


def tell_value(holder, record, codes):
    value = value_of(holder.leaves_of(record), codes)
    return [len(value)] + value


def tell_count(holder, record):
    total = holder.numbered_record_at(record).total
    return [total, width_for(total - 1)]


def tell_nth(holder, record, number):
    found = holder.numbered_record_at(record)
    if not 0 <= number < found.total:
        raise NoSuchLeafOrValue()
    value = found.value_at(number)
    return [len(value)] + value


def tell_index(holder, record, value):
    found = holder.numbered_record_at(record)
    return [found.number_at(codes_of(found.leaves, value))]


def answer_of(holder, line):
    """The answer to the next call of the line; what the call has is taken first, refused or not."""
    call = line.take_whole()
    if call == LOAD:
        return load(holder, line.take_row())
    if call == SHOWN:
        return shown(holder)
    record = line.take_whole()
    if call == LEAVES:
        return tell_leaves(holder, record)
    if call == LEAF:
        return tell_leaf(holder, record, line.take_whole())
    if call == CODES:
        return tell_codes(holder, record, line.take_row())
    if call == VALUE:
        return tell_value(holder, record, line.take_row())
    if call == COUNT:
        return tell_count(holder, record)
    if call == NTH:
        return tell_nth(holder, record, line.take_whole())
    if call == INDEX:
        return tell_index(holder, record, line.take_row())
    raise UnknownCall(call)


def answers(calls):
    """For each call in order: how many numbers are answered, and they."""
    holder = Holder()
    line = Line(calls)
    told = []
    while not line.ended():
        try:
            answer = answer_of(holder, line)
        except Refusal as refusal:
            answer = [refusal.answer]
        told.append(len(answer))
        told.extend(answer)
    return told
