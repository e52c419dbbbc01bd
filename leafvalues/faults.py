"""What is raised: the fault of a text that tells no records, and the refusals of calls."""

TEXT_TOO_LONG = 1
NO_TOKEN = 2
NOT_ALLOWED = 3
TOO_MANY = 4
TOLD_TWICE = 5
NOT_TOLD_BEFORE = 6
OUT_OF_BOUNDS = 7
TOO_MANY_LEAVES = 15
FORM_TOO_LONG = 16


class Fault(Exception):
    """A fault's code, and its place in the text."""

    def __init__(self, code, place):
        self.code = code
        self.place = place


class Refusal(Exception):
    """A refused call: answer is the number that it gets, below 0."""

    def __init__(self, answer):
        self.answer = answer


class NoRecords(Refusal):
    """No records are held."""

    def __init__(self):
        Refusal.__init__(self, -1)


class NoSuchRecord(Refusal):
    """No record has this number."""

    def __init__(self):
        Refusal.__init__(self, -2)


class NoSuchLeafOrValue(Refusal):
    """No leaf of the record, or no value of it, has this number."""

    def __init__(self):
        Refusal.__init__(self, -3)


class NoValue(Refusal):
    """The list is no value of the record, or not the codes of one."""

    def __init__(self):
        Refusal.__init__(self, -4)


class TooManyValues(Refusal):
    """The record has more values than are numbered."""

    def __init__(self):
        Refusal.__init__(self, -6)


class UnknownCall(Exception):
    """A call's number that nothing answers to."""

    def __init__(self, call):
        self.call = call
