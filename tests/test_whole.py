"""The whole program once more: all functions answer the same whatever was asked before, and whoever spoils the answers;
programs, rows, benches, books and sessions are hurt by none of them."""

import random
import re
import unittest

from tests.checks import shown, spoil
from tests.stock import chance_stock
from tests.test_interface import LISTED
from tests.woven import woven_stock
from truestops import (
    alike, benches, books, exchange, flows, making, moving, pieces, programs, putting, reading, rewriting, rows, scripts, seen,
    sessions, spans, texts,
)
from truestops.benches import Bench
from truestops.books import Book
from truestops.errors import StopError
from truestops.programs import Program, program_text
from truestops.reading import read_rule, readable
from truestops.rows import Rows
from truestops.texts import rows_text

OF_BENCHES = [moving, pieces, putting, books, exchange, reading, benches, making, sessions, scripts, texts]
OF_ENGINES = [programs, flows, rows, spans, alike, seen, rewriting]


class Values:
    """What may be passed for each parameter, at a mark and a stop of a bench; each call gives new things."""

    def __init__(self, parts, seat, chance):
        self.bench = Bench(Program(*parts[0]), Rows(*parts[1])) if isinstance(parts, tuple) else parts
        self.mark, self.stop = seat
        self.variables, self.holders = self.bench.joints.variables(self.stop), self.bench.joints.holders(self.mark)
        self.chance = chance

    def stir(self):
        return {self.variables[0]: 1} if self.variables else {}

    def change(self):
        return {self.holders[0]: 1}

    def readings(self):
        found = readable(self.bench, self.mark, self.stop)
        return [("read", self.mark, self.stop, wanted, read_rule(self.bench, self.mark, self.stop, wanted)) for wanted in found[:1]]

    def lines(self):
        change = ("change", self.mark, self.stop, self.stir(), self.change())
        return self.readings() + ([change] if self.variables else [])

    def of(self, function, parameter):
        if parameter == "where":
            return self.stop
        if parameter == "stirs" and "common" in function:
            return {self.stop: self.stir()}
        if parameter in ("one", "other") and function == "joined":
            return Book(self.bench, self.lines())
        if function == "where_beside":
            return self.bench.program() if parameter == "one" else self.bench.rows()
        if parameter in ("one", "other") and function not in ("fits", "missed", "sure_rule", "is_sure_rule") and "exchange" not in function:
            return self.bench.rows()
        return self.plain(parameter)

    def plain(self, parameter):
        told = {
            "bench": self.bench, "mark": self.mark, "earlier": self.mark, "stop": self.stop, "path": (), "value": None, "amount": 1, "prime": self.bench.rows().prime(),
            "stir": self.stir(), "change": self.change(), "stirs": [self.stir()], "knobs_told": [self.stir()], "inputs": [], "letters": [], "going_on": [], "course": [],
            "readings": self.readings(), "names": self.variables[:1], "line": ("change", self.mark, self.stop, self.stir(), self.change()), "lines": self.lines(),
            "one": (self.bench, self.mark, self.stop), "other": (self.bench, self.mark, self.stop), "links": None, "wanted": self.stir(), "sums": [self.stir()],
            "state": {holder: 0 for holder in self.variables + self.holders}, "holders": {holder: 0 for holder in self.holders}, "dump": (self.mark, {holder: 0 for holder in self.holders}),
            "wishes": {name: 0 for name in self.variables}, "rule": {self.holders[0]: {}}, "first": {"#0": {"": 1}}, "second": {"#0": {"#0": 1}}, "log": [("go",)],
            "benches": [self.bench], "script": [("go",), ("move", self.stir()), ("beats",)], "text": "go", "program": self.bench.program(), "rows": self.bench.rows(),
            "engine": self.bench.program(), "place": 0, "order": list(range(self.bench.rows().boxes())), "boxes": 2, "units": self.bench.rows().units(), "parts": [self.bench.rows().units()], "cells": 2,
        }
        if parameter == "book":
            return Book(self.bench, self.lines())
        return sessions.Session(self.bench) if parameter == "session" else told[parameter]


def answer(module, row, values):
    """What a function answers, or the name of its error, as a text; what it returned is spoilt behind that."""
    function = row.partition("(")[0]
    try:
        told = getattr(module, function)(*[values.of(function, parameter) for parameter in re.findall(r"\w+", row.partition("(")[2])])
    except StopError as error:
        return type(error).__name__
    if isinstance(told, Book):
        told = told.lines()
    elif isinstance(told, Rows):
        told = rows_text(told)
    elif isinstance(told, Program):
        told = program_text(told)
    elif isinstance(told, sessions.Session):
        told = [told.here(), told.beats(), told.would(), told.log()]
    text = shown(told)
    spoil(told)
    return text


class Whole(unittest.TestCase):
    def rows_of(self, modules):
        classes = ("Program(", "Rows(", "Bench(", "Book(", "Session(")
        return [(module, row) for module in modules for row in LISTED[module] if not row.startswith(classes)]

    def test_answers_are_the_same_whatever_was_asked_before(self):
        chance, errors, many = random.Random(1), 0, 0
        stocks = list(woven_stock(range(10), 3, 0, 1, 0.6, True)) + list(woven_stock(range(6), 65537, 0, 1)) + list(chance_stock(range(25), 5, 0, 1))
        functions = self.rows_of(OF_BENCHES + OF_ENGINES)
        for stock in stocks:
            parts = (stock.one.parts, stock.other.parts)
            used = Bench(Program(*parts[0]), Rows(*parts[1]))
            before = [program_text(used.program()), rows_text(used.rows())]
            seats = used.passings.true_seats()
            if not seats:
                continue
            for _ in range(2):
                for module, row in chance.sample(functions, len(functions)):
                    answer(module, row, Values(used, chance.choice(seats), chance))
            for module, row in functions:
                one, other = answer(module, row, Values(used, seats[-1], chance)), answer(module, row, Values(parts, seats[-1], chance))
                self.assertEqual(one, other, row)
                many += 1
                errors += one in vars(__import__("truestops.errors", fromlist=["errors"]))
            self.assertEqual([program_text(used.program()), rows_text(used.rows())], before)
            self.assertEqual(used, Bench(Program(*parts[0]), Rows(*parts[1])))
        # Most of what is asked is answered, not refused.
        self.assertGreater(many, 2000)
        self.assertLess(errors * 4, many)


if __name__ == "__main__":
    unittest.main()
