"""Benches by chance, gone through by brute force: programs beside rows made of them whose marks are tampered with."""

import random

from tests.brute import Engine
from tests.machines import letters_for
from tests.oracle import Chance
from truestops.benches import Bench
from truestops.errors import Fault, Unsound
from truestops.making import made
from truestops.programs import Program, all_stops
from truestops.rewriting import calls_opened, idle_left_out, tails_joined
from truestops.rows import Rows


PLAIN = ("set", "copy", "times", "more", "add", "take", "keep", "fetch", "store", "print")


def moved(chance, rows, at):
    """The rows of a unit with a mark moved behind the next few plain rows. Jumps lead only to marks and to arms."""
    many = 0
    while rows[at + 1 + many][0] in PLAIN and many < chance.choice([1, 4, 12]):
        many += 1
    return rows[:at] + rows[at + 1:at + 1 + many] + [rows[at]] + rows[at + 1 + many:]


def tampered(chance, stops, rows, may_move):
    """The rows of a unit in which marks have other stops, or, if they may, stand some rows later."""
    for at, row in enumerate(rows):
        if row[0] == "mark" and chance.random() < 0.5:
            more = {chance.choice(stops) for _ in range(chance.randint(1, 2))} | set(row[2] if chance.random() < 0.8 else [])
            rows = rows[:at] + [("mark", row[1], sorted(more))] + rows[at + 1:]
    for at in reversed(range(len(rows))):
        if rows[at][0] == "mark" and may_move and chance.random() < 0.4:
            rows = moved(chance, rows, at)
    return rows


def variant(chance, program, rows, kind):
    if kind == 0:
        return rows
    if kind == 1:
        rows = tails_joined(rows)
    elif kind == 2:
        rows = idle_left_out(rows)
    elif kind == 3:
        rows = calls_opened(rows)
    stops = all_stops(program) or [("none",)]
    # Where tails are joined jumps lead to any rows.
    units = {name: (cells, tampered(chance, stops, told, kind != 1)) for name, (cells, told) in rows.units().items()}
    return Rows(rows.prime(), rows.boxes(), units)


class Stock:
    """A bench with its engines; `known` holds all inputs of few letters, with what both do by the second reckonings."""

    def __init__(self, one, other, most, numbers):
        self.one = one
        self.other = other
        self.prime = one.prime
        self.bench = Bench(one.engine, other.engine)
        self.known = []
        level = [[]]
        for _ in range(most + 1):
            self.known += [(inputs, one.told(inputs), other.told(inputs)) for inputs in level]
            level = [inputs + [letter] for inputs in level for letter in letters_for(one.told(inputs).asked, numbers)]
            if len(level) > 500:
                break

    def stops_of(self, mark):
        name, path = mark
        for _, rows in self.other.parts[2].values():
            for row in rows:
                if row[:2] == ("mark", name):
                    return [path + stop for stop in row[2]]

    def passings(self, mark):
        """The list of (inputs, [stops passed with their prints], prints of the rows) of all beats that pass a mark."""
        stops = self.stops_of(mark)
        found = []
        for inputs, mine, theirs in self.known:
            if theirs.at(mark):
                passed = [(stop, many) for stop, _, many in mine.passed if stop in stops]
                found.append((inputs, passed, theirs.at(mark)[1]))
        return found

    def word(self, mark):
        """The word of a mark, as far as few letters show it."""
        passings = self.passings(mark)
        for inputs, passed, _ in passings:
            if len(passed) != 1:
                return ("stray", inputs)
        for inputs, passed, many in passings:
            if passed[0][1] != many:
                return ("uneven", inputs)
        return ("true", passings[0][0]) if passings else ("never", None)

    def runs(self, mark, stop):
        """All (inputs, numbers of variables, numbers of holders) of few letters that pass a mark at a stop."""
        return [(inputs, list(mine.at(stop)[0].values()), list(theirs.at(mark)[0].values()))
                for inputs, mine, theirs in self.known if mine.at(stop) and theirs.at(mark)]


def engines_by_chance(seeds, prime):
    for seed in seeds:
        chance = Chance(seed)
        chance.prime = prime
        parts = chance.program()
        try:
            program = Program(*parts)
            rows = variant(random.Random(seed), program, made(program), seed % 5)
        except (Fault, Unsound):
            continue
        yield Engine(parts, True), Engine((prime, 3, rows.units()), False)


def chance_stock(seeds, prime, most, numbers=None):
    """Stock of a prime; `numbers` tells how many numbers are tried at each read, all if it is left out."""
    for one, other in engines_by_chance(seeds, prime):
        yield Stock(one, other, most, prime if numbers is None else numbers)


def joined_stock(seeds, prime):
    """Benches with a mark that joins the arms of a pick; the arms leave boxes 1 and 2 as chance has it."""
    for seed in seeds:
        chance = random.Random(seed)
        many = chance.randint(2, 4)
        arms, rows, starts, jumps = [], [("read", 1), ("read", 0), ("pick", [])], [], []
        for at in range(many):
            factor, constant = chance.randrange(prime), chance.randrange(prime)
            wanted = {name: n for name, n in [("x", factor), ("", constant)] if n}
            label = "stuv"[at]
            arms.append(([], [("set", "z" + label, "x", wanted), ("pass", label)]))
            starts.append(len(rows))
            rows += [("times", 0, factor), ("more", 0, constant)]
            extra = [("set", 2, chance.randrange(prime)), ("copy", 1, 0), ("add", 1, 2), ("copy", 2, 1), ("more", 2, 1), ("set", 1, chance.randrange(prime))]
            rows += chance.sample(extra, chance.randint(0, 3))
            jumps.append(len(rows))
            rows.append(("go", 0))
        for jump in jumps:
            rows[jump] = ("go", len(rows))
        rows[2] = ("pick", starts)
        rows += [("mark", "m", [(label,) for label in "stuv"[:many]]), ("print", 0), ("end",)]
        steps = [("read", "a", "y"), ("read", "b", "x"), ("pick", "p", arms), ("print", "o", {"x": 1})]
        yield Stock(Engine((prime, ["x", "y"], [], ([], steps)), True), Engine((prime, 3, {"main": (0, rows)}), False), 3, prime)
