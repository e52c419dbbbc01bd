"""What load and shown have to answer, found in another way than the program's.

Tokens are cut by a pattern, the text is judged with a stack of what has to
come, and the one form is made from the tokens alone.
"""

import re

WORDS = "record from to at maybe many one hot layout size of".split()
PATTERN = re.compile(r"(?P<skip>[ \t\n]+|#[^\n]*)|(?P<word>[A-Za-z][A-Za-z0-9]*)|(?P<digits>[0-9]+)|(?P<sign>[{},;:.-])")


class Wrong(Exception):
    pass


def cut(text):
    """Triples of kind, text and place."""
    found, place = [], 0
    while place < len(text):
        match = PATTERN.match(text, place)
        if match is None:
            raise Wrong(2, place)
        part = match.group()
        if match.lastgroup == "word":
            if len(part) > 16:
                raise Wrong(2, place)
            found.append((part if part in WORDS else "NAME", part, place))
        elif match.lastgroup == "digits":
            if str(int(part)) != part or int(part) > 10 ** 9:
                raise Wrong(2, place)
            found.append(("NUMBER", part, place))
        elif match.lastgroup == "sign":
            found.append((part, part, place))
        place = match.end()
    return found + [("END", "", len(text))]


class Judge:
    """Goes through the tokens with a stack of what has to come: kinds, and steps to take."""

    def __init__(self, tokens):
        self.tokens = tokens
        self.place = 0
        self.todo = [self.more_records]
        self.counts = {}
        self.sums = []
        self.current = None
        self.before = 0

    def now(self):
        return self.tokens[self.place]

    def wrong(self, code):
        raise Wrong(code, self.now()[2])

    def push(self, *steps):
        self.todo.extend(reversed(steps))

    def run(self):
        while self.todo:
            step = self.todo.pop()
            if not isinstance(step, str):
                step()
            elif self.now()[0] != step:
                self.wrong(3)
            else:
                self.place += 1
        return list(self.counts.values())

    def more_records(self):
        kind = self.now()[0]
        if kind == "END" and self.counts:
            return
        if kind == "record" and len(self.counts) == 6:
            self.wrong(4)
        start, names = self.now()[2], {}

        def close():
            if self.sums[-1] > 24:
                raise Wrong(15, start)
            self.counts[self.current] = self.sums.pop()

        def remember():
            self.current = self.tokens[self.place - 1][1]
            self.sums.append(0)

        def field():
            self.push(self.new(names), "NAME", ":", self.sort(1), self.maybe_hot, ";", after)

        def after():
            if self.now()[0] == "}":
                self.push("}", close, self.more_records)
            else:
                field()

        self.push("record", self.new(self.counts, keep=False), "NAME", remember, "{", field)

    def new(self, names, keep=True):
        def step():
            if self.now()[0] == "NAME" and self.now()[1] in names:
                self.wrong(5)
            if keep:
                names[self.now()[1]] = True
        return step

    def maybe_hot(self):
        if self.now()[0] == "hot":
            self.push("hot", self.number(range(1, 1001)), "NUMBER")

    def number(self, allowed):
        def step():
            if self.now()[0] == "NUMBER" and int(self.now()[1]) not in allowed:
                self.wrong(7)
        return step

    def value(self, keep):
        def step():
            sign = -1 if self.now()[0] == "-" else 1

            def look():
                self.number(range(1000001))()
                if self.now()[0] == "NUMBER":
                    told = sign * int(self.now()[1])
                    if keep is not None and told < keep[0]:
                        self.wrong(7)
                    self.last_told = told
            self.push(*(["-"] if sign < 0 else []), look, "NUMBER")
        return step

    def sort(self, depth, times=1):
        """A step for what may stand in a field, each leaf of it counting for so many."""
        def step():
            kind, told, place = self.now()
            if depth == 7:
                self.wrong(4)
            if kind == "NAME":
                if told not in self.counts:
                    self.wrong(6)
                self.sums[-1] += times * self.counts[told]
                self.push("NAME")
            elif kind == "from":
                self.from_to(times)
            elif kind == "maybe":
                self.sums[-1] += times
                self.push("maybe", self.sort(depth + 1, times))
            elif kind == "many":
                def inner():
                    self.push(self.sort(depth + 1, times * int(self.tokens[self.place - 1][1])))
                self.push("many", self.number(range(1, 9)), "NUMBER", inner)
            elif kind == "one":
                self.sums[-1] += times
                self.alternatives(depth, times)
            else:
                self.wrong(3)
        return step

    def from_to(self, times):
        self.sums[-1] += times
        keep = []

        def kept():
            keep.append(self.last_told)

        def aligned():
            if self.now()[0] == "at":
                self.push("at", self.number((1, 2, 4, 8, 16, 32)), "NUMBER")
        self.push("from", self.value(None), kept, "to", self.value(keep), aligned)

    def alternatives(self, depth, times):
        names = {}

        def alternative():
            if len(names) == 4:
                self.wrong(4)
            self.push(self.new(names), "NAME", ":", self.sort(depth + 1, times), after)

        def after():
            if self.now()[0] == "}" and len(names) > 1:
                self.push("}")
            else:
                self.push(",", alternative)
        self.push("one", "{", alternative)


def form(tokens):
    """The one form of tokens that tell records."""
    words = " ".join(token[1] for token in tokens[:-1])
    words = re.sub(r"\b(at|hot) 1(?= )", "", words)
    words = re.sub(r"- (?=0 )", "", words)
    words = re.sub(r"- (?=[0-9])", "-", words)
    words = re.sub(r" +", " ", words).replace(" ,", ",")
    words = re.sub(r"(record \w+ \{) ", "\\1\n", words).replace("; ", ";\n")
    return re.sub(r"^\} ", "}\n", words, flags=re.M) + "\n"


def judged(data):
    """What load answers, and what shown answers then, None if the text has a fault."""
    text = bytes(data).decode("latin-1")
    try:
        if len(text) > 4096:
            raise Wrong(1, 4096)
        tokens = cut(text)
        counts = Judge(tokens).run()
        told = form(tokens)
        if len(told) > 4096:
            raise Wrong(16, 0)
    except Wrong as wrong:
        return [0, *wrong.args], None
    return [1, len(counts), *counts], [len(told), *told.encode("ascii")]
