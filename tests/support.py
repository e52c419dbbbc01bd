"""Calls put together, and answers taken apart."""

from leafvalues.records import answers

WORKED = (
    "record P { x : from 0 to 9 ; y : from -3 to 3 at 8 ; } "
    "record R { a : maybe P ; b : one { k : from 0 to 1, m : many 2 from 0 to 4 } hot 3 ; c : from 5 to 5 ; }"
)


class Untouchable(list):
    """A list that fails on the spot when it is changed."""

    def refuse(self, *args, **kwargs):
        raise RuntimeError("the list handed in was changed")

    append = extend = insert = remove = pop = clear = sort = reverse = refuse
    __setitem__ = __delitem__ = __iadd__ = __imul__ = refuse


def data_of(text):
    return list(text.encode("ascii")) if isinstance(text, str) else list(text)


def load(text):
    data = data_of(text)
    return [0, len(data), *data]


def shown():
    return [1]


def leaves(r):
    return [2, r]


def leaf(r, i):
    return [3, r, i]


def codes(r, *told):
    return [4, r, len(told), *told]


def value(r, *told):
    return [5, r, len(told), *told]


def count(r):
    return [6, r]


def nth(r, n):
    return [7, r, n]


def index(r, *told):
    return [8, r, len(told), *told]


def split(told):
    found = []
    place = 0
    while place < len(told):
        found.append(told[place + 1:place + 1 + told[place]])
        place += 1 + told[place]
    if place != len(told):
        raise AssertionError("an answer is cut off")
    return found


def ask(*calls):
    """The answers to these calls, on one object."""
    line = [number for call in calls for number in call]
    told = answers(Untouchable(line))
    if not all(type(number) is int for number in told):
        raise AssertionError("an answer is no whole number")
    return split(told)


def ask_all(text, calls):
    """The answers to however many calls on what the text tells, a hundred calls at a time."""
    found = []
    for start in range(0, len(calls), 99):
        found += ask(load(text), *calls[start:start + 99])[1:]
    return found


def last(*calls):
    return ask(*calls)[-1]


def field(told, name="a"):
    """A text of one record with one field."""
    return f"record R {{ {name} : {told} ; }}"


def form_of(text):
    """What shown tells of the text, as a text."""
    answer = last(load(text), shown())
    if answer[0] != len(answer) - 1:
        raise AssertionError("shown tells another count than its bytes")
    return bytes(answer[1:]).decode("ascii")


class Told:
    """A leaf's answer, taken apart."""

    def __init__(self, answer):
        behind = 2 + answer[1]
        self.first = answer[0]
        self.name = bytes(answer[2:behind]).decode("ascii")
        self.least, self.greatest, self.width, self.kind, self.aligned, self.hot = answer[behind:behind + 6]
        rest = answer[behind + 7:]
        self.guards = list(zip(rest[::2], rest[1::2]))
        if answer[behind + 6] * 2 != len(rest):
            raise AssertionError("a leaf tells another count of guards than it has")


def leaves_told(text, r):
    """All leaves of record r of the text, one by one."""
    found = last(load(text), leaves(r))[0]
    return [Told(last(load(text), leaf(r, i))) for i in range(found)]
