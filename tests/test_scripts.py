"""Points 115 to 118: scripts, played, as texts, their ends, trimmed ones."""

import random
import unittest

from tests.checks import Checks, bent_ones, shown
from tests.odd import odd_objects
from tests.test_benches import bad_marks
from tests.test_exchange import lone, pair
from tests.test_sessions import Point106, at_m, both, rounds, told_of
from tests.woven import woven_stock
from truestops.errors import InvalidBench, InvalidScript, InvalidSession, InvalidText, OutOfOrder, Stray, Uneven
from truestops.programs import Program
from truestops.benches import Bench
from truestops.rows import Rows
from truestops.scripts import end_of, play, read_script, script_text, trimmed
from truestops.sessions import Session

M, N = ("m", ()), ("n", ())
EACH = [
    ("go",), ("number", 3), ("choice", 0), ("read", {"x": 1, "": 2}), ("move", {"x": 1}), ("suppose", {"c.x": 2, "y": 1}), ("put", {"x": 0, "y": 10 ** 29}),
    ("exchange", 12, ("m", ("c", "d"))), ("undo",), ("redo",), ("here",), ("beats",), ("would",), ("try", [("go",), ("try", []), ("read", {})]), ("try", []), ("move", {}),
]


def watch():
    program = Program(5, [], [], (["x"], [("read", "a", "x"), ("pass", "s"), ("print", "b", {"x": 1})]))
    return Bench(program, Rows(5, 1, {"main": (0, [("read", 0), ("mark", "m", [("s",)]), ("print", 0), ("end",)])}))


class Point115(Checks):
    def every(self):
        return [(lambda script: play(Session(watch()), [], script)), script_text, (lambda script: end_of(watch(), [], script)), (lambda script: trimmed(watch(), [], script))]

    def test_scripts_that_are_none(self):
        bad = [thing for thing in odd_objects() if thing != []] + [(("go",),), ("go",), {0: ("go",)}]
        commands = [("go", 1), ["go"], ("number",), ("number", -1), ("number", True), ("number", "1"), ("choice", None), ("choice", 1, 2), ("read",), ("read", {"": 0}), ("read", [("x", 1)]), ("read", {"x": -1}), ("read", {"x": True}),
                    ("move", {1: 1}), ("suppose", {"X": 1}), ("suppose", {"ninesigns": 1}), ("put", {"x.": 1}), ("put", {"#": 1}), ("put", {"@1": 1}), ("put", {"#01": 1}), ("exchange", 0), ("exchange", -1, M), ("exchange", 0, ("m",)), ("exchange", 0, ("m", [])),
                    ("exchange", 0, ("M", ())), ("exchange", 0, ("m", ("C",))), ("exchange", True, M), ("undo", None), ("redo", 1), ("here", ()), ("beats", []), ("would", 0), ("try",), ("try", ("go",)), ("try", [("go", 1)]), ("try", [[]]), ("try", [("try", 7)]), ("stop",), ("answer", ("number", 1)), ("log",), ("dump",), (), (1,), (("go",),), ("end",)]
        for function in self.every():
            self.refused_all(InvalidScript, bad + [[command] for command in commands] + [[("go",), command] for command in commands], function, None, at=0)

    def test_each_form(self):
        for command in EACH + [("read", {"#0": 1, "@0.12": 3}), ("put", {"": 3}), ("move", {"": 1}), ("number", 10 ** 30)]:
            self.assertIsInstance(script_text([command]), str)
            for bent in bent_ones(command):
                try:
                    self.assertEqual(read_script(script_text([bent])), [bent])
                except InvalidScript as error:
                    self.assertEqual(shown(error.value), shown([bent]))


class Point116(Checks):
    def test_each_command(self):
        session = at_m()
        script = [
            ("here",), ("read", {"x": 1, "y": 1}), ("read", {"x": 1}), ("move", {"x": 1}), ("suppose", {"y": 1}), ("read", {"x": 1, "y": 1, "": 1}), ("undo",), ("redo",), ("put", {"x": 1, "y": 1}), ("read", {"x": 1, "y": 1}),
            ("exchange", 1, M), ("read", {"x": 1, "y": 1}), ("go",), ("beats",), ("would",), ("undo",), ("here",),
        ]
        here = ("mark", M, ("s",))
        self.assertEqual(play(session, [lone()[0], both()], script), [
            ("here", here), ("read", 1), ("read", None), ("done",), ("done",), ("read", 4), ("done",), ("done",), ("done",), ("read", 2), ("done",), ("read", 2), ("here", ("end",)), ("beats", [[], [], [1]]), ("would", [[], [], [2]]), ("done",), ("here", here),
        ])
        self.assertEqual([command[0] for command in session.log()[5:]], ["move", "suppose", "put", "exchange"])

    def test_letters(self):
        session = Session(rounds())
        script = [("go",), ("go",), ("choice", 2), ("number", 1), ("choice", 1), ("choice", 1), ("go",), ("number", 5), ("number", 3), ("go",), ("beats",)]
        self.assertEqual(play(session, [], script), [
            ("here", ("mark", M, ("w",))), ("here", ("choice", 2)), ("refused", "InvalidLetter"), ("refused", "InvalidLetter"), ("done",), ("refused", "NotHere"), ("here", ("number",)), ("refused", "InvalidLetter"), ("done",), ("here", ("mark", N, ("p",))), ("beats", [[], [], []]),
        ])

    def test_refused_ones_with_the_words_of_their_errors(self):
        begin = [("read", {}), ("undo",), ("redo",), ("exchange", 0, M), ("exchange", 1, M), ("number", 0)]
        self.assertEqual(play(Session(both()), [both()], begin), [("refused", word) for word in ["NotHere", "NothingToUndo", "NothingToRedo", "NotHere", "InvalidCount", "NotHere"]])
        benches = [watch(), both()]
        script = [("read", {"z": 1}), ("read", {"x": 5}), ("read", {"x": 0}), ("move", {"": 1}), ("put", {"x": 1}), ("put", {"x": 7}), ("put", {"z": 7}), ("exchange", 0, M), ("exchange", 1, N), ("exchange", 2, M), ("redo",)]
        words = ["UnknownHolder", "InvalidSum", "InvalidSum", "InvalidSum", "Refused", "InvalidSum", "InvalidSum", "Unlike", "UnknownMark", "InvalidCount", "NothingToRedo"]
        session = at_m()
        before = told_of(session)
        self.assertEqual(play(session, benches, script), [("refused", word) for word in words])
        self.assertEqual(told_of(session), before)
        # An error does not end a script.
        self.assertEqual(play(session, [], [("number", 1), ("go",)]), [("refused", "NotHere"), ("here", ("end",))])

    def test_tries_within_tries(self):
        session = at_m()
        before = told_of(session)
        inner = ("try", [("go",), ("beats",), ("undo",), ("undo",), ("here",)])
        self.assertEqual(play(session, [], [("try", [("move", {"x": 1}), inner, ("read", {"x": 1, "y": 1}), ("stop",)][:3]), ("try", [])]), [
            ("tried", [("done",), ("tried", [("here", ("end",)), ("beats", [[], [], [2]]), ("done",), ("done",), ("here", ("mark", M, ("s",)))]), ("read", 2)]), ("tried", []),
        ])
        self.assertEqual(told_of(session), before)

    def test_against_the_methods(self):
        for prime in [2, 5, 65537]:
            for seed, stock in enumerate(woven_stock(range(40), prime, 0, 1, 0.8)):
                chance = random.Random(seed)
                script = some_script(chance, prime, 20)
                session, twin = Session(stock.bench), Session(stock.bench)
                said = play(session, [stock.bench], script)
                self.assertEqual(said, [one for command in script for one in play(twin, [stock.bench], [command])])
                self.assertEqual(told_of(session), told_of(twin))
                self.assertEqual(end_of(stock.bench, [stock.bench], script), (session.here(), session.beats(), session.would()))

    def test_errors_in_their_order(self):
        for value in odd_objects() + [both()]:
            self.refused(InvalidSession, value, play, value, 7, 7)
        session = at_m()
        for value in [thing for thing in odd_objects() if thing != []] + [(both(),), [both(), None], [session], both()]:
            self.refused(InvalidBench, value, play, session, value, 7)
        self.assertEqual(play(script=[("here",)], benches=[], session=session), [("here", ("mark", M, ("s",)))])
        script = [("move", {"y": 1, "x": 1}), ("try", [("beats",)]), ("would",)]
        handed = shown(script)
        said = play(session, [], script)
        self.assertEqual(shown(script), handed)
        said[-1][1].append("spoilt")
        self.assertEqual(session.would(), [[], [], []])


def some_script(chance, prime, many, deep=0):
    script = []
    for _ in range(many):
        word = chance.choice(["go"] * 8 + ["number", "choice"] * 4 + ["read", "move", "suppose", "put"] * 2 + ["undo", "redo", "here", "beats", "would", "exchange", "try"])
        if word in ("number", "choice"):
            script.append((word, chance.randrange(min(prime, 3))))
        elif word in ("read", "move", "suppose", "put"):
            names = chance.sample(["ax", "ay", "bx", "by", "w"], chance.randint(0, 2)) + [""] * (word == "read" and chance.random() < 0.3)
            script.append((word, {name: chance.randrange(1, prime) for name in names}))
        elif word == "exchange":
            script.append((word, chance.randrange(2), (chance.choice("abcd"), ())))
        elif word == "try":
            script.append((word, some_script(chance, prime, chance.randint(0, 4), deep + 1) if deep < 3 else []))
        else:
            script.append((word,))
    return script


class Point117(Checks):
    def test_line_by_line(self):
        self.assertEqual(script_text(EACH).split("\n"), [
            "go", "number 3", "choice 0", "read 1 x + 2", "move 1 x", "suppose 2 c.x + 1 y", "put 0 x + 100000000000000000000000000000 y", "exchange 12 m in c.d", "undo", "redo", "here", "beats", "would",
            "try", "  go", "  try", "  end", "  read 0", "end", "try", "end", "move 0",
        ])
        self.assertEqual(read_script(script_text(EACH)), EACH)
        self.assertEqual((script_text([]), read_script("")), ("", []))
        self.assertEqual(read_script("exchange 0 m in -"), [("exchange", 0, M)])
        self.assertEqual(read_script("read 3"), [("read", {"": 3})])

    def test_there_and_back(self):
        for seed in range(60):
            script = some_script(random.Random(seed), 65537, 12)
            self.assertEqual(read_script(script_text(script)), script)
            self.assertEqual(script_text(read_script(script_text(script))), script_text(script))

    def test_texts_that_are_none(self):
        bad = [thing for thing in odd_objects() if thing != ""] + [
            "\n", "go\n", "\ngo", "go ", " go", "go 1", "number", "number 03", "number  3", "number -1", "number 1 2", "choice x", "read", "read 1 x + 1 x", "read 1 y + 1 x", "read 01 x", "read 1  x", "read 2 + 1 x", "read x", "read 0 + 1 x", "read 1 X", "put 1 x +",
            "move", "exchange 0", "exchange 0 m", "exchange 0 m in", "exchange 00 m in -", "exchange 0  m in -", "exchange m in -", "try", "end", "try\nend\nend", "try\ngo\nend", "try\n go\nend", "try\n   go\nend", "try\n  go\n  end", "try\n  go", "  go", "try\n  try\n  end", "end\ntry",
            "try 1\nend", "try\nend 1", "Go", "stop", "answer 1", "try\n\nend", "try\r\nend", "go\tundo", "go;undo", "read 1 x + 0",
        ]
        self.refused_all(InvalidText, bad, read_script, None, at=0)
        text = script_text(EACH)
        lines = text.split("\n")
        for at in range(len(lines)):
            doubled, left = lines[:at] + lines[at:at + 1] + lines[at:], lines[:at] + lines[at + 1:]
            for told in ["\n".join(doubled), "\n".join(left)]:
                try:
                    self.assertEqual(script_text(read_script(told)), told)
                    self.assertNotIn(lines[at].strip(), ("try", "end"))
                except InvalidText as error:
                    self.assertEqual(error.value, told)
        for at in range(len(text)):
            for told in [text[:at] + text[at + 1:], text[:at] + " " + text[at:], text[:at] + "0" + text[at:]]:
                try:
                    self.assertEqual(script_text(read_script(told)), told)
                except InvalidText as error:
                    self.assertEqual(error.value, told)

    def test_names(self):
        self.same_by_names(script_text, script=EACH)
        self.same_by_names(read_script, text="go\ntry\n  read 1 x\nend")
        self.unhurt(read_script, "go\ntry\n  read 1 x\nend")
        script = [("put", {"y": 1, "x": 2})]
        self.assertEqual(script_text(script), "put 2 x + 1 y")
        self.assertEqual(list(script[0][1]), ["y", "x"])


class Point118(Checks):
    def test_ends(self):
        self.assertEqual(end_of(watch(), [], []), (("begin",), [[]], [[]]))
        self.assertEqual(end_of(watch(), [], [("go",), ("number", 3), ("go",), ("suppose", {"x": 1}), ("go",)]), (("end",), [[], [3]], [[], [4]]))
        self.assertEqual(end_of(both(), [both()], [("go",), ("number", 3), ("go",), ("number", 3), ("go",), ("move", {"x": 1}), ("exchange", 0, M), ("try", [("go",)])]), (("mark", M, ("s",)), [[], [], []], [[], [], []]))

    def test_trimmed(self):
        self.assertEqual(trimmed(watch(), [], [("go",), ("here",), ("number", 3), ("beats",)]), [("go",), ("number", 3)])
        # From the last one to the first one: of two that do the same the first one is left.
        self.assertEqual(trimmed(watch(), [], [("go",), ("go",), ("number", 3), ("undo",)]), [("go",), ("number", 3), ("undo",)])
        self.assertEqual(trimmed(watch(), [], [("go",), ("number", 3), ("undo",), ("redo",)]), [("go",), ("number", 3), ("redo",)])
        on = [("go",), ("number", 3), ("go",)]
        # Each of two moves that do nothing together counts if the other one stays.
        moves = [("move", {"x": 1}), ("move", {"x": 4}), ("go",)]
        self.assertEqual(trimmed(watch(), [], on + moves), on + moves)
        self.assertEqual(trimmed(watch(), [], on + [("put", {"x": 1}), ("put", {"x": 2}), ("go",)]), on + [("put", {"x": 2}), ("go",)])
        self.assertEqual(trimmed(watch(), [], on + [("put", {"x": 2}), ("put", {"x": 2}), ("go",)]), on + [("put", {"x": 2}), ("go",)])
        self.assertEqual(trimmed(watch(), [], on + [("try", [("go",)])]), on)
        self.assertEqual(trimmed(watch(), [], []), [])

    def test_each_that_is_left_counts(self):
        for prime in [2, 5]:
            for seed, stock in enumerate(woven_stock(range(60), prime, 0, 1, 0.8)):
                script = some_script(random.Random(seed), prime, 8)
                aim = end_of(stock.bench, [stock.bench], script)
                left = script
                for at in reversed(range(len(script))):
                    fewer = left[:at] + left[at + 1:]
                    left = fewer if end_of(stock.bench, [stock.bench], fewer) == aim else left
                self.assertEqual(trimmed(stock.bench, [stock.bench], script), left)

    def test_what_is_returned_stands_apart(self):
        script = [("go",), ("number", 3), ("go",), ("move", {"x": 1}), ("try", [("go",)]), ("go",)]
        told = trimmed(watch(), [], script)
        self.assertEqual(told, [("go",), ("number", 3), ("go",), ("move", {"x": 1}), ("go",)])
        told[3][1]["x"] = 9
        self.assertEqual(script[3], ("move", {"x": 1}))
        self.unhurt(trimmed, watch(), [], script)
        self.unhurt(end_of, watch(), [], script)
        deep = [("go",), ("number", 0), ("go",), ("put", {"x": 1})]
        self.assertEqual(trimmed(script=deep, bench=watch(), benches=[]), [("go",), ("number", 0), ("go",)])
        self.same_by_names(end_of, bench=watch(), benches=[], script=deep)

    def test_errors_in_their_order(self):
        turned = Point106().marked([("read", 0), ("print", 0), ("mark", "v", [("d",)]), ("mark", "w", [("c",)]), ("print", 0), ("end",)])
        for function in [end_of, trimmed]:
            self.refused_all(InvalidBench, odd_objects() + [at_m()], function, None, 7, 7, at=0)
            self.refused(Stray, ("s", ()), function, bad_marks(), 7, 7)
            self.refused(OutOfOrder, turned, function, turned, 7, 7)
            uneven = Point106().marked([("read", 0), ("mark", "t", [("c",)]), ("print", 0), ("print", 0), ("end",)])
            self.refused(Uneven, ("t", ()), function, uneven, 7, 7)
            for value in [thing for thing in odd_objects() if thing != []] + [(watch(),), [None]]:
                self.refused(InvalidBench, value, function, watch(), value, 7)
            self.refused(InvalidScript, 7, function, watch(), [bad_marks()], 7)


if __name__ == "__main__":
    unittest.main()
