"""Benches by chance whose rows hold less than the program: each box holds the sum of two variables.

So some variables can be read, moved or put only together, some not at all, and some not at once: two prints that the
program makes of two variables the rows make of one box. Marks stand one behind the other, join arms and stand in rounds.
"""

import random

from tests.brute import Engine
from tests.stock import Stock
from truestops.errors import Fault, NotAlike
from truestops.forms import name_by_count


class Weaver:
    def __init__(self, seed, prime, marks=0.6):
        self.chance = random.Random(seed)
        self.prime = prime
        self.marks = marks
        self.labels = iter([a + b for a in "klmno" for b in "abcdefgh"])
        self.names = iter([name_by_count(at) for at in range(40)])
        self.rows = []
        # The box whose number the variable w has, or None.
        self.held = None

    def label(self):
        return next(self.labels)

    def mark(self, *labels):
        if self.chance.random() < self.marks:
            self.rows.append(("mark", next(self.names), sorted((label,) for label in labels)))

    def form(self, names):
        found = {name: self.chance.randrange(self.prime) for name in self.chance.sample(names, self.chance.randint(0, 2))}
        return {name: n for name, n in found.items() if n}

    def of_box(self, box, factor=1):
        return {"ab"[box] + sign: factor % self.prime for sign in "xy"}

    def added(self, *sums):
        total = {}
        for wanted in sums:
            for name, n in wanted.items():
                total[name] = (total.get(name, 0) + n) % self.prime
        return {name: n for name, n in total.items() if n}

    def block(self, deep, most):
        statements = []
        for _ in range(self.chance.randint(1, most)):
            words = ["change", "change", "shift", "read", "read", "print", "print", "double", "double"] + ["pick", "again"] * deep * 2
            words += ["double", "echo"] * 2 if self.held is not None else []
            statements += getattr(self, self.chance.choice(words))(deep)
        return statements

    def change(self, deep):
        box, other = self.chance.sample([0, 1], 2)
        n = self.chance.randrange(self.prime)
        row, wanted = self.chance.choice([
            (("times", box, n), self.of_box(box, n)), (("more", box, n), self.added(self.of_box(box), {"": n})),
            (("add", box, other), self.added(self.of_box(box), self.of_box(other))), (("copy", box, other), self.of_box(other)),
            (("set", box, n), {"": n}),
        ])
        first, second = self.chance.sample(list(self.of_box(box)), 2)
        label = self.label()
        self.mark(label)
        self.rows.append(row)
        self.held = None if self.held == box else self.held
        return [("set", label, first, self.added(wanted, {second: self.prime - 1}))]

    def shift(self, deep):
        box, other = self.chance.sample([0, 1], 2)
        first, second = self.chance.sample(list(self.of_box(box)), 2)
        moved = self.form(list(self.of_box(other)) + ["w", ""])
        a, b = self.label(), self.label()
        self.mark(a)
        self.mark(b)
        taken = self.added(self.of_box(box), {name: -n for name, n in moved.items()})
        return [("set", a, first, taken), ("set", b, second, moved)]

    def read(self, deep):
        box = self.chance.choice([0, 1])
        first, second = self.chance.sample(list(self.of_box(box)), 2)
        a, b = self.label(), self.label()
        self.mark(a)
        self.mark(b)
        self.rows.append(("read", box))
        self.held = None if self.held == box else self.held
        return [("set", a, second, {}), ("read", b, first)]

    def print(self, deep):
        box = self.chance.choice([0, 1])
        label = self.label()
        self.mark(label)
        self.rows.append(("print", box))
        return [("print", label, self.of_box(box))]

    def double(self, deep):
        ahead = []
        if self.held is None:
            self.held = self.chance.choice([0, 1])
            label = self.label()
            self.mark(label)
            ahead = [("set", label, "w", self.of_box(self.held))]
        a, b = self.label(), self.label()
        self.mark(a)
        self.rows.append(("print", self.held))
        self.mark(b)
        self.rows.append(("print", self.held))
        return ahead + [("print", a, {"w": 1}), ("print", b, self.of_box(self.held))]

    def echo(self, deep):
        """A round in which nothing is done but a print of w, or of its box."""
        a, b = self.label(), self.label()
        start = len(self.rows)
        self.mark(a)
        self.rows.append(("pick", [len(self.rows) + 3, len(self.rows) + 1]))
        self.rows += [("print", self.held), ("go", start)]
        return [("again", a, ([], [("print", b, self.chance.choice([{"w": 1}, self.of_box(self.held)]))]))]

    def pick(self, deep):
        label, a, b = self.label(), self.label(), self.label()
        self.mark(label)
        start = len(self.rows)
        self.rows.append(None)
        held = self.held
        one = self.block(0, 1)
        behind = self.held
        self.held = held
        jump = len(self.rows)
        self.rows.append(None)
        other = self.block(0, 1)
        self.rows[start] = ("pick", [start + 1, jump + 1])
        self.rows[jump] = ("go", len(self.rows))
        self.mark(a, b)
        self.held = behind if behind == self.held else None
        return [("pick", label, [([], one + [("pass", a)]), ([], other + [("pass", b)])])]

    def again(self, deep):
        label = self.label()
        start = len(self.rows)
        self.mark(label)
        pick = len(self.rows)
        self.rows.append(None)
        self.held = None
        body = self.block(0, 2)
        self.held = None
        self.rows.append(("go", start))
        self.rows[pick] = ("pick", [len(self.rows), pick + 1])
        return [("again", label, ([], body))]

    def begin(self):
        """Numbers to begin with, perhaps two in one box, and a constant."""
        a, b, c = self.label(), self.label(), self.label()
        n = self.chance.randrange(1, self.prime)
        reads = [("read", a, "ax"), ("read", b, "bx")]
        self.rows.append(("read", 0))
        if self.chance.random() < 0.5:
            reads.insert(1, ("read", self.label(), "ay"))
            self.rows += [("read", 1), ("add", 0, 1)]
        self.rows.append(("read", 1))
        self.mark(c)
        self.rows.append(("more", 1, n))
        return reads + [("set", c, "by", {"": n})]

    def stock(self, most, numbers, begins=False):
        body = ([], (self.begin() if begins else []) + self.block(1, 4))
        shared = ["ax", "ay", "bx", "by", "w"]
        units = {"main": (0, self.rows + [("end",)])}
        return Stock(Engine((self.prime, shared, [], body), True), Engine((self.prime, 2, units), False), most, numbers)


def woven_stock(seeds, prime, most=2, numbers=None, marks=0.6, begins=False):
    """Such stock of a prime; `numbers` tells how many numbers are tried at each read, all if it is left out. Programs
    that begin with numbers, if wanted, read two first."""
    for seed in seeds:
        try:
            yield Weaver(seed, prime, marks).stock(most, prime if numbers is None else numbers, begins)
        except Fault:
            continue


def bare_ones(seeds, prime):
    """How many of the seeds make benches that are not alike: there should be none."""
    found = []
    for seed in seeds:
        try:
            Weaver(seed, prime).stock(0, 1)
        except Fault:
            continue
        except NotAlike:
            found.append(seed)
    return found
