"""A second reckoning of what rows do, row by row, and rows made by chance."""

import random

from tests.oracle import deeds_of, stirs_at


class Machine:
    """Goes through rows one by one. It knows nothing of points and places but where it stands."""

    def __init__(self, prime, boxes, units):
        self.prime = prime
        self.units = units
        self.boxes = [0] * boxes
        self.frames = []
        self.beats = [[]]
        self.passed = []
        self.place = None
        # Where it is stirred: what is passed, in which beat, and the stir; one such tuple, or a list of them.
        self.stirred = None
        # What is passed, with the state behind being stirred.
        self.left = []

    def note(self, mark):
        self.passed.append((mark, self.state(), len(self.beats[-1])))
        for stir in stirs_at(self.stirred, mark, len(self.beats) - 1):
            for holder, amount in stir.items():
                depth, _, at = holder[1:].rpartition(".")
                held = self.frames[int(depth)] if holder[0] == "@" else self.boxes
                held[int(at)] = (held[int(at)] + amount) % self.prime
        self.left.append((mark, self.state()))

    def state(self):
        found = {f"#{b}": n for b, n in enumerate(self.boxes)}
        for depth, frame in enumerate(self.frames):
            found.update({f"@{depth}.{k}": n for k, n in enumerate(frame)})
        return dict(sorted(found.items()))

    def do_unit(self, name, path):
        self.frames.append([0] * self.units[name][0])
        at = 0
        while True:
            row = self.units[name][1][at]
            self.place = (path, name, at)
            at += 1
            if row[0] == "end":
                return
            if row[0] == "back":
                self.frames.pop()
                return
            if row[0] == "pick":
                at = row[1][(yield ("choice", len(row[1])))]
            elif row[0] == "go":
                at = row[1]
            elif row[0] == "read":
                self.boxes[row[1]] = yield ("number",)
            elif row[0] == "call":
                yield from self.do_unit(row[1], path + (row[2],))
            elif row[0] == "mark":
                self.note((row[1], path))
            else:
                self.do(row)

    def do(self, row):
        word, x, y = (row + (None,))[:3]
        boxes, own, main = self.boxes, self.frames[-1], self.frames[0]
        if word == "print":
            self.beats[-1].append(boxes[x])
        elif word == "keep":
            own[x] = boxes[y]
        elif word == "store":
            main[x] = boxes[y]
        else:
            boxes[x] = {
                "set": lambda: y, "copy": lambda: boxes[y], "times": lambda: boxes[x] * y, "more": lambda: boxes[x] + y,
                "add": lambda: boxes[x] + boxes[y], "take": lambda: own[y], "fetch": lambda: main[y],
            }[word]() % self.prime


def fits(asked, prime, letter):
    if asked == ("number",):
        return letter[0] == "number" and letter[1] < prime
    return asked[0] == "choice" and letter[0] == "choice" and letter[1] < asked[1]


def gone_through(parts, inputs, stirred=None):
    """The machine behind a run, perhaps stirred, and what it asks for; None instead if a letter does not fit."""
    machine = Machine(*parts)
    machine.stirred = stirred
    run = machine.do_unit("main", ())
    asked = next(run, ("end",))
    for letter in inputs:
        if not fits(asked, parts[0], letter):
            return None
        machine.beats.append([])
        machine.passed = []
        machine.left = []
        try:
            asked = run.send(letter[1])
        except StopIteration:
            asked = ("end",)
    return machine, asked


class Told:
    """What one engine does on inputs, by the second reckonings: beats, asking, what is passed, place and state."""

    def __init__(self, beats, asked, passed, place=None, state=None, left=None):
        self.beats, self.asked, self.passed, self.place, self.state, self.left = beats, asked, passed, place, state, left

    def at(self, where):
        for told, state, many in self.passed:
            if told == where:
                return state, many
        return None


def told_of_program(parts, inputs, stirred=None):
    found = deeds_of(parts, inputs, stirred)
    if found is None:
        return None
    deeds, asked = found
    # A stop that asks is the last one that is passed in its beat.
    place = deeds.passed[-1][0] if asked != ("end",) else None
    return Told(deeds.beats, asked, deeds.passed, place, dict(sorted(deeds.numbers.items())), deeds.left)


def told_of_rows(parts, inputs, stirred=None):
    found = gone_through(parts, inputs, stirred)
    if found is None:
        return None
    machine, asked = found
    return Told(machine.beats, asked, machine.passed, machine.place, machine.state(), machine.left)


def letters_for(asked, prime):
    if asked == ("number",):
        return [("number", n) for n in range(prime)]
    return [("choice", n) for n in range(asked[1])] if asked[0] == "choice" else []


def all_inputs(told, prime, most):
    """All inputs of at most so many letters, in order; `told` is a function as told_of_program is, without parts."""
    level = [[]]
    for _ in range(most + 1):
        yield from level
        level = [inputs + [letter] for inputs in level for letter in letters_for(told(inputs).asked, prime)]


class ChanceRows:
    """Makes rows by chance, some of which are not sound, the same ones for each seed."""

    def __init__(self, seed, prime=None):
        self.random = random.Random(seed)
        self.prime = prime or self.random.choice([2, 3, 5, 65537])
        self.boxes = self.random.randint(1, 3)
        self.labels = iter([a + b for a in "abcdef" for b in "klmnopqrst"])

    def row(self, cells, main_cells, many, later):
        chance, boxes, prime = self.random, self.boxes, self.prime
        b, c, n = chance.randrange(boxes), chance.randrange(boxes), chance.randrange(prime)
        words = ["set", "copy", "times", "more", "add", "add", "read", "read", "print", "print", "pick", "pick", "mark", "mark"]
        words += ["take", "keep"] * 2 if cells else []
        words += ["fetch", "store"] if main_cells else []
        words += ["call"] * 2 if later else []
        word = chance.choice(words)
        if word in ("set", "times", "more"):
            return (word, b, n)
        if word in ("copy", "add"):
            return (word, b, c)
        if word in ("take", "keep"):
            k = chance.randrange(cells)
            return (word, b, k) if word == "take" else (word, k, b)
        if word in ("fetch", "store"):
            k = chance.randrange(main_cells)
            return (word, b, k) if word == "fetch" else (word, k, b)
        if word == "pick":
            return (word, [chance.randrange(many) for _ in range(chance.randint(2, 3))])
        if word == "call":
            return (word, chance.choice(later), next(self.labels))
        if word == "mark":
            stops = {tuple(chance.choice("st") for _ in range(chance.randint(1, 2))) for _ in range(chance.randint(1, 2))}
            return (word, next(self.labels), sorted(stops))
        return (word, b)

    def units(self):
        names = ["main", "one", "two"][:self.random.randint(1, 3)]
        main_cells = self.random.randint(0, 2)
        found = {}
        for at, name in enumerate(names):
            cells = main_cells if name == "main" else self.random.randint(0, 2)
            many = self.random.randint(3, 10)
            rows = [self.row(cells, main_cells, many, names[at + 1:]) for _ in range(many - 1)]
            if self.random.random() < 0.4:
                rows[self.random.randrange(many - 1)] = ("go", self.random.randrange(many))
            found[name] = (cells, rows + [("end",) if name == "main" else ("back",)])
        return found

    def parts(self):
        return (self.prime, self.boxes, self.units())
