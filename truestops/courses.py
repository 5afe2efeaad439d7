"""Courses: runs of a program and rows side by side, moved by the lines of a book, and what is told along them."""

from truestops.engines import vector_of
from truestops.forms import is_count, is_number, letter_fits
from truestops.guides import Guide
from truestops.vectors import product_of


class Course:
    """A run that takes command by command. `told` is what the rows told so far, with what is due."""

    def __init__(self, bench, lines):
        self.modulus = bench.rows().prime()
        self.told = []
        self._lines = lines
        self._program = Guide(bench.program())
        self._rows = Guide(bench.rows())
        self._readings = {}
        for at, line in enumerate(lines):
            if line[0] == "read":
                _, mark, stop, wanted, rule = line
                mine = vector_of(wanted, bench.joints.variables(stop) + [""])
                theirs = vector_of(rule, bench.joints.holders(mark) + [""])
                self._readings.setdefault(mark, []).append((at, stop, mine, theirs))

    def take_in(self, command):
        """Takes a command and returns whether it fits."""
        if type(command) is tuple and len(command) == 3 and command[0] == "move":
            return self._move(command[1], command[2])
        if not letter_fits(self.modulus, self._rows.turn.beat.asked, command):
            return False
        self.tell(None)
        self._program.answer(command)
        self._rows.answer(command)
        return True

    def _move(self, at, amount):
        if not is_count(at) or at >= len(self._lines) or not is_number(self.modulus, amount):
            return False
        word, mark, stop, stir, change = self._lines[at]
        if word != "change" or not self._rows.turn.comes_by(mark) or not self._program.turn.comes_by(stop):
            return False
        self.tell(mark)
        self._program.come_to(stop, stir, amount)
        self._rows.come_to(mark, change, amount)
        return True

    def tell(self, until):
        """Notes all that is told in what is left of the beat, but only up to a mark if one is named."""
        rows = self._rows.turn
        printed = list(zip(rows.numbers_printed(), self._program.turn.numbers_printed()))
        at = 0
        for mark, vectors, many in rows.beat.passes:
            self.told.extend([("printed", number, due) for number, due in printed[at:many]])
            at = many
            if mark == until:
                return
            self._read_at(mark, vectors)
        self.told.extend([("printed", number, due) for number, due in printed[at:]])

    def _read_at(self, mark, vectors):
        for at, stop, wanted, rule in self._readings.get(mark, []):
            variables = self._program.turn.numbers_at(stop)
            if variables is not None:
                number = product_of(self.modulus, rule, self._rows.turn.reckoned(vectors) + [1])
                self.told.append(("read", at, number, product_of(self.modulus, wanted, variables + [1])))
