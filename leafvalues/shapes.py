"""What a text tells: records of fields, what a field may hold, and the leaves of all this.

Each shape has three methods: leaf_count, form (its one form), and lay, which
puts its leaves behind those found so far.
"""

NUMBER = 0
MAYBE_TAG = 1
ONE_TAG = 2


class Leaf:
    """One number, or one tag, of a record.

    guards are pairs: a tag's number among the record's leaves, and the code that it has to have.
    """

    def __init__(self, name, least, greatest, kind, aligned, hot, guards):
        self.name = name
        self.least = least
        self.greatest = greatest
        self.kind = kind
        self.aligned = aligned
        self.hot = hot
        self.guards = guards

    def width(self):
        """The bits for the greatest code: at least 1, also if there is only the code 0."""
        return max(1, (self.greatest - self.least).bit_length())

    def within(self, name, hot, guards, start):
        """This leaf, where its record stands in another one with its leaves from start on."""
        moved = tuple([(start + tag, code) for tag, code in self.guards])
        return Leaf(
            name + "." + self.name, self.least, self.greatest, self.kind,
            self.aligned, hot * self.hot, guards + moved,
        )


class Number:
    """A number from the first to the last."""

    def __init__(self, first, last, aligned):
        self.first = first
        self.last = last
        self.aligned = aligned

    def leaf_count(self):
        return 1

    def form(self):
        told = "from " + str(self.first) + " to " + str(self.last)
        if self.aligned != 1:
            told += " at " + str(self.aligned)
        return told

    def lay(self, found, name, hot, guards):
        found.append(Leaf(name, self.first, self.last, NUMBER, self.aligned, hot, guards))


class Maybe:
    """Nothing, or what is in it."""

    def __init__(self, inner):
        self.inner = inner

    def leaf_count(self):
        return 1 + self.inner.leaf_count()

    def form(self):
        return "maybe " + self.inner.form()

    def lay(self, found, name, hot, guards):
        tag = len(found)
        found.append(Leaf(name + ".maybe", 0, 1, MAYBE_TAG, 1, hot, guards))
        self.inner.lay(found, name + ".some", hot, guards + ((tag, 1),))


class Many:
    """The same, several times."""

    def __init__(self, times, inner):
        self.times = times
        self.inner = inner

    def leaf_count(self):
        return self.times * self.inner.leaf_count()

    def form(self):
        return "many " + str(self.times) + " " + self.inner.form()

    def lay(self, found, name, hot, guards):
        for number in range(self.times):
            self.inner.lay(found, name + "." + str(number), hot, guards)


class Alternative:
    """A name, and what it stands for."""

    def __init__(self, name, inner):
        self.name = name
        self.inner = inner


class One:
    """One of its alternatives."""

    def __init__(self, alternatives):
        self.alternatives = alternatives

    def leaf_count(self):
        return 1 + sum([alternative.inner.leaf_count() for alternative in self.alternatives])

    def form(self):
        rows = [alternative.name + " : " + alternative.inner.form() for alternative in self.alternatives]
        return "one { " + ", ".join(rows) + " }"

    def lay(self, found, name, hot, guards):
        tag = len(found)
        found.append(Leaf(name + ".one", 0, len(self.alternatives) - 1, ONE_TAG, 1, hot, guards))
        for number, alternative in enumerate(self.alternatives):
            alternative.inner.lay(found, name + "." + alternative.name, hot, guards + ((tag, number),))


class Named:
    """A record told before, by its name."""

    def __init__(self, record):
        self.record = record

    def leaf_count(self):
        return len(self.record.leaves)

    def form(self):
        return self.record.name

    def lay(self, found, name, hot, guards):
        start = len(found)
        for leaf in self.record.leaves:
            found.append(leaf.within(name, hot, guards, start))


class Field:
    """A name, what it holds, and how hot it is."""

    def __init__(self, name, inner, hot):
        self.name = name
        self.inner = inner
        self.hot = hot

    def form(self):
        told = self.name + " : " + self.inner.form()
        if self.hot != 1:
            told += " hot " + str(self.hot)
        return told + " ;"


class Record:
    """A name, and fields; leaves are all of its leaves, in order."""

    def __init__(self, name, fields):
        self.name = name
        self.fields = fields
        self.leaves = laid_out(fields)

    def form(self):
        rows = ["record " + self.name + " {"]
        rows.extend([field.form() for field in self.fields])
        rows.append("}")
        return "".join([row + "\n" for row in rows])


def count_leaves(fields):
    """How many leaves the fields have, without laying them out: they may be far too many."""
    return sum([field.inner.leaf_count() for field in fields])


def laid_out(fields):
    found = []
    for field in fields:
        field.inner.lay(found, field.name, field.hot, ())
    return found


def one_form(records):
    return "".join([record.form() for record in records])
