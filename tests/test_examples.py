"""The blocks of examples of the document, line by line, each with the answers that it gives."""

import unittest

NUMBERS = """
from truestops.numbers import barred, between, combined, inverse, is_barred_between, is_between, is_solved, nothings, rank, reduced, solved
[inverse(5, 2), inverse(5, 4), combined(5, [[1, 2], [3, 4]], [2, 1]), reduced(5, [[2, 4, 1], [1, 2, 4]]), rank(5, [[1, 2], [2, 4]])]
# [3, 4, [0, 3], [[1, 2, 0], [0, 0, 1]], 1]
[is_solved(5, [[1, 2], [2, 4]], [3, 1], [1, 1]), solved(5, [[1, 2]], [3, 1]), solved(5, [[1, 2]], [1, 1]), barred(5, [[1, 2]], [1, 1]), nothings(5, [[1, 2], [2, 4], [0, 1]])]
# [True, [3], None, [2, 4], [[1, 2, 0]]]
[is_between(5, [[1, 0]], [[1], [2]], [[3]], [[3, 0], [0, 0]]), between(5, [[0], [1]], [[1]], [[1], [0]]), is_barred_between(5, [[0], [1]], [[1]], [[1], [0]], ("first", [1, 0]))]
# [True, None, True]
"""

PROGRAMS = """
from truestops.programs import Program, all_stops, holders_at, in_sight, passed_stops, program_text, read_program, run_program
ups = Program(5, ["n"], [("up", ["x"], ["y"], ([], [("set", "u", "y", {"x": 2})]))], ([], [("again", "w", ([], [("call", "c", "up", [{"": 1, "n": 1}], ["n"]), ("print", "o", {"n": 1})]))]))
[run_program(ups, [("choice", 1), ("choice", 1), ("choice", 0)]), all_stops(ups), holders_at(ups, ("c", "u")), in_sight(ups, ("c", "u"))["x"]]
# [([[], [2], [1], []], ('end',)), [('w',), ('c',), ('c', 'u'), ('o',)], ['c.x', 'c.y', 'n'], 'c.x']
passed_stops(ups, [("choice", 1)])
# [(('c',), {'n': 0}, 0), (('c', 'u'), {'c.x': 1, 'c.y': 0, 'n': 0}, 0), (('o',), {'n': 2}, 0), (('w',), {'n': 2}, 1)]
[program_text(ups).split(chr(10)), read_program(program_text(ups)) == ups]
# [['prime 5', 'shared (n)', 'procedure up (x) (y)', '  u: set y = 2 x', 'main', '  w: again', '    c: call up (1 n + 1) (n)', '    o: print 1 n'], True]
"""

FLOWS = """
from truestops.flows import alive_at, points, run_flow, stop_places, way_of
from truestops.programs import Program
ups = Program(5, ["n"], [("up", ["x"], ["y"], ([], [("set", "u", "y", {"x": 2})]))], ([], [("again", "w", ([], [("call", "c", "up", [{"": 1, "n": 1}], ["n"]), ("print", "o", {"n": 1})]))]))
points(ups)[:6]
# [('live', ['n'], 1), ('pass', ('w',), 2), ('pick', [12, 3]), ('pass', ('c',), 4), ('live', ['c.x', 'c.y'], 5), ('set', 'c.x', {'': 1, 'n': 1}, 6)]
points(ups)[6:]
# [('pass', ('c', 'u'), 7), ('set', 'c.y', {'c.x': 2}, 8), ('set', 'n', {'c.y': 1}, 9), ('gone', ['c.x', 'c.y'], 10), ('pass', ('o',), 11), ('print', {'n': 1}, 1), ('end',)]
[way_of(ups, []), way_of(ups, [("choice", 1)]), way_of(ups, [("choice", 0)]), alive_at(ups, 6), run_flow(ups, [("choice", 1)])]
# [[0, 1, 2], [3, 4, 5, 6, 7, 8, 9, 10, 11, 1, 2], [12], ['c.x', 'c.y', 'n'], ([[], [2]], ('choice', 2))]
fork = Program(3, [], [], ([], [("pick", "p", [(["t"], [("read", "r", "t")]), ([], [])]), ("pass", "z")]))
[points(fork), stop_places(fork)[("z",)]]
# [[('pass', ('p',), 1), ('pick', [2, 6]), ('live', ['t'], 3), ('pass', ('r',), 4), ('read', 't', 5), ('gone', ['t'], 6), ('pass', ('z',), 7), ('end',)], 6]
"""


def answers(block):
    """Each answer that a block gives, beside what its line comes to here."""
    known, last, found = {}, None, []
    for line in block.strip().split("\n"):
        if line.startswith("# "):
            found.append((line[2:], last))
        elif line.startswith("from ") or " = " in line.partition("(")[0]:
            exec(line, known)
        else:
            last = repr(eval(line, known))
    return found


class Examples(unittest.TestCase):
    def block(self, block, many):
        found = answers(block)
        self.assertEqual(len(found), many)
        for told, come_to in found:
            self.assertEqual(come_to, told)

    def test_section_3(self):
        self.block(NUMBERS, 3)

    def test_section_4(self):
        self.block(PROGRAMS, 3)

    def test_section_5(self):
        self.block(FLOWS, 4)


if __name__ == "__main__":
    unittest.main()
