"""What a text tells: records of fields, what a field may hold, and the leaves and values of all this.

Each shape has these methods: leaf_count; form, its one form; lay, which puts
its leaves behind those found so far; value_count; tell, which puts the value
with a number behind what is told so far; and number_of, the number of the
value that has these codes, with the shape's own leaves from start on.
tell and number_of check nothing: the number, or the codes, have to be a value's.
"""

from leafvalues.numbering import count_row, number_row, tell_row, width_for

NUMBER = 0
MAYBE_TAG = 1
ONE_TAG = 2


class Leaf:
    """One number, or one tag, of a record.

    guards are pairs: a tag's number among the record's leaves, and the code that it has to have.
    """

    def __init__(self, name, least, greatest, kind, aligned, hot, guards):
        self.name = name
        self.least = least
        self.greatest = greatest
        self.kind = kind
        self.aligned = aligned
        self.hot = hot
        self.guards = guards

    def width(self):
        return width_for(self.greatest_code())

    def greatest_code(self):
        return self.greatest - self.least

    def within(self, name, hot, guards, start):
        """This leaf, where its record stands in another one with its leaves from start on."""
        moved = tuple([(start + tag, code) for tag, code in self.guards])
        return Leaf(
            name + "." + self.name, self.least, self.greatest, self.kind,
            self.aligned, hot * self.hot, guards + moved,
        )


class Number:
    """A number from the first to the last."""

    def __init__(self, first, last, aligned):
        self.first = first
        self.last = last
        self.aligned = aligned

    def leaf_count(self):
        return 1

    def form(self):
        told = "from " + str(self.first) + " to " + str(self.last)
        if self.aligned != 1:
            told += " at " + str(self.aligned)
        return told

    def lay(self, found, name, hot, guards):
        found.append(Leaf(name, self.first, self.last, NUMBER, self.aligned, hot, guards))

    def value_count(self):
        return self.last - self.first + 1

    def tell(self, number, told):
        told.append(self.first + number)

    def number_of(self, codes, start):
        return codes[start]


class Maybe:
    """Nothing, or what is in it."""

    def __init__(self, inner):
        self.inner = inner

    def leaf_count(self):
        return 1 + self.inner.leaf_count()

    def form(self):
        return "maybe " + self.inner.form()

    def lay(self, found, name, hot, guards):
        tag = len(found)
        found.append(Leaf(name + ".maybe", 0, 1, MAYBE_TAG, 1, hot, guards))
        self.inner.lay(found, name + ".some", hot, guards + ((tag, 1),))

    def value_count(self):
        return 1 + self.inner.value_count()

    def tell(self, number, told):
        if number == 0:
            told.append(0)
        else:
            told.append(1)
            self.inner.tell(number - 1, told)

    def number_of(self, codes, start):
        if codes[start] == 0:
            return 0
        return 1 + self.inner.number_of(codes, start + 1)


class Many:
    """The same, several times."""

    def __init__(self, times, inner):
        self.times = times
        self.inner = inner

    def leaf_count(self):
        return self.times * self.inner.leaf_count()

    def form(self):
        return "many " + str(self.times) + " " + self.inner.form()

    def lay(self, found, name, hot, guards):
        for number in range(self.times):
            self.inner.lay(found, name + "." + str(number), hot, guards)

    def row(self):
        return [self.inner] * self.times

    def value_count(self):
        return count_row(self.row())

    def tell(self, number, told):
        tell_row(self.row(), number, told)

    def number_of(self, codes, start):
        return number_row(self.row(), codes, start)


class Alternative:
    """A name, and what it stands for."""

    def __init__(self, name, inner):
        self.name = name
        self.inner = inner


class One:
    """One of its alternatives."""

    def __init__(self, alternatives):
        self.alternatives = alternatives

    def leaf_count(self):
        return 1 + sum([alternative.inner.leaf_count() for alternative in self.alternatives])

    def form(self):
        rows = [alternative.name + " : " + alternative.inner.form() for alternative in self.alternatives]
        return "one { " + ", ".join(rows) + " }"

    def lay(self, found, name, hot, guards):
        tag = len(found)
        found.append(Leaf(name + ".one", 0, len(self.alternatives) - 1, ONE_TAG, 1, hot, guards))
        for number, alternative in enumerate(self.alternatives):
            alternative.inner.lay(found, name + "." + alternative.name, hot, guards + ((tag, number),))

    def value_count(self):
        return sum([alternative.inner.value_count() for alternative in self.alternatives])

    def tell(self, number, told):
        chosen = 0
        while number >= self.alternatives[chosen].inner.value_count():
            number -= self.alternatives[chosen].inner.value_count()
            chosen += 1
        told.append(chosen)
        self.alternatives[chosen].inner.tell(number, told)

    def number_of(self, codes, start):
        chosen = codes[start]
        ahead = [alternative.inner for alternative in self.alternatives[:chosen]]
        chosen_start = start + 1 + sum([inner.leaf_count() for inner in ahead])
        number = self.alternatives[chosen].inner.number_of(codes, chosen_start)
        return sum([inner.value_count() for inner in ahead]) + number


class Named:
    """A record told before, by its name."""

    def __init__(self, record):
        self.record = record

    def leaf_count(self):
        return len(self.record.leaves)

    def form(self):
        return self.record.name

    def lay(self, found, name, hot, guards):
        start = len(found)
        for leaf in self.record.leaves:
            found.append(leaf.within(name, hot, guards, start))

    def value_count(self):
        return self.record.total

    def tell(self, number, told):
        tell_row(self.record.parts, number, told)

    def number_of(self, codes, start):
        return number_row(self.record.parts, codes, start)


class Field:
    """A name, what it holds, and how hot it is."""

    def __init__(self, name, inner, hot):
        self.name = name
        self.inner = inner
        self.hot = hot

    def form(self):
        told = self.name + " : " + self.inner.form()
        if self.hot != 1:
            told += " hot " + str(self.hot)
        return told + " ;"


class Record:
    """A name, and fields; leaves are all of its leaves, in order, total is how many values it has."""

    def __init__(self, name, fields):
        self.name = name
        self.fields = fields
        self.leaves = laid_out(fields)
        self.parts = [field.inner for field in fields]
        self.total = count_row(self.parts)

    def form(self):
        rows = ["record " + self.name + " {"]
        rows.extend([field.form() for field in self.fields])
        rows.append("}")
        return "".join([row + "\n" for row in rows])

    def value_at(self, number):
        """The value with this number, which has to be from 0 to below the total."""
        told = []
        tell_row(self.parts, number, told)
        return told

    def number_at(self, codes):
        """The number of the value with these codes, which have to be a value's."""
        return number_row(self.parts, codes, 0)


def count_leaves(fields):
    """How many leaves the fields have, without laying them out: they may be far too many."""
    return sum([field.inner.leaf_count() for field in fields])


def laid_out(fields):
    found = []
    for field in fields:
        field.inner.lay(found, field.name, field.hot, ())
    return found


def one_form(records):
    return "".join([record.form() for record in records])
