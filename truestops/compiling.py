"""Rows made of a program: a unit for its body and for each procedure that is called, variables in cells.

Boxes hold nothing from statement to statement. Values and results of calls go through the first boxes; a sum is
reckoned in one box with the help of another one.
"""

from truestops.forms import name_by_count
from truestops.opening import table_of
from truestops.rowforms import MOST_CELLS

BOXES = 3
# The box that helps to reckon a sum in another one.
HELPER = 2


def reckoning(box, helper, wanted, places):
    """Rows behind which a box holds a sum; `places` leads its names to tuples of the word that gets it, and a cell."""
    rows = [("set", box, wanted.get("", 0))]
    for name in sorted(wanted):
        if name:
            word, cell = places[name]
            rows.append((word, helper, cell))
            if wanted[name] != 1:
                rows.append(("times", helper, wanted[name]))
            rows.append(("add", box, helper))
    return rows


def fits_boxes(procedure):
    parameters, results, _ = procedure
    return len(parameters) <= HELPER and len(results) <= HELPER


class UnitWriter:
    """Writes the rows of one unit. A scope is the dictionary from variables to (whether it is a global, its cell)."""

    def __init__(self, unit_names):
        self.written = []
        self.cells = 0
        self.called = []
        self._unit_names = unit_names

    def write_body(self, scope, block):
        self.cells = len(scope)
        self.write_block(block, scope, len(scope))
        self.written.append(("end",))

    def write_procedure(self, scope, procedure):
        parameters, results, block = procedure
        own = {name: (False, cell) for cell, name in enumerate(parameters + results)}
        self.cells = len(own)
        inner = {**scope, **own}
        self.written.extend([("keep", cell, cell) for cell in range(len(parameters))])
        self.write_block(block, inner, len(own))
        self.written.extend([self._load(box, name, inner) for box, name in enumerate(results)])
        self.written.append(("back",))

    def write_block(self, block, scope, free):
        """Writes a block whose own variables take cells from the first free one on, as blocks beside it do."""
        own, statements = block
        fresh = {name: (False, free + at) for at, name in enumerate(own)}
        inner = {**scope, **fresh}
        behind = free + len(own)
        self.cells = max(self.cells, behind)
        if own:
            self.written.append(("set", 0, 0))
            self.written.extend([("keep", free + at, 0) for at in range(len(own))])
        for statement in statements:
            self.written.append(("mark", statement[1], [(statement[1],)]))
            self._write(statement, inner, behind)

    def _load(self, box, name, scope):
        is_global, cell = scope[name]
        return ("fetch" if is_global else "take", box, cell)

    def _save(self, name, box, scope):
        is_global, cell = scope[name]
        return ("store" if is_global else "keep", cell, box)

    def _reckon(self, box, wanted, scope):
        places = {name: ("fetch" if is_global else "take", cell) for name, (is_global, cell) in scope.items()}
        self.written.extend(reckoning(box, HELPER, wanted, places))

    def _write(self, statement, scope, free):
        word = statement[0]
        if word == "read":
            self.written.extend([("read", 0), self._save(statement[2], 0, scope)])
        elif word == "set":
            self._reckon(0, statement[3], scope)
            self.written.append(self._save(statement[2], 0, scope))
        elif word == "print":
            self._reckon(0, statement[2], scope)
            self.written.append(("print", 0))
        elif word == "pick":
            self._write_pick(statement[2], scope, free)
        elif word == "again":
            self._write_again(statement[2], scope, free)
        elif word == "call":
            self._write_call(statement, scope)

    def _write_pick(self, arms, scope, free):
        here = len(self.written)
        self.written.append(("pick", []))
        starts = []
        ends = []
        for arm in arms:
            starts.append(len(self.written))
            self.write_block(arm, scope, free)
            ends.append(len(self.written))
            self.written.append(("go", 0))
        self.written[here] = ("pick", starts)
        for end in ends:
            self.written[end] = ("go", len(self.written))

    def _write_again(self, block, scope, free):
        # Each round leads back to the mark, as the stop is passed ahead of each asking.
        here = len(self.written)
        self.written.append(("pick", []))
        self.write_block(block, scope, free)
        self.written.append(("go", here - 1))
        self.written[here] = ("pick", [len(self.written), here + 1])

    def _write_call(self, statement, scope):
        _, label, name, sums, variables = statement
        for box, wanted in enumerate(sums):
            self._reckon(box, wanted, scope)
        self.called.append(name)
        self.written.append(("call", self._unit_names[name], label))
        self.written.extend([self._save(variable, box, scope) for box, variable in enumerate(variables)])


def names_of_units(table):
    """A unit's name for each procedure: its own one, but where that is the name of the body's unit."""
    names = {name: name for name in table}
    if "main" in names:
        count = 0
        while name_by_count(count) in table:
            count += 1
        names["main"] = name_by_count(count)
    return names


def units_of(shared, procedures, body):
    """The units of a program; None where it has more variables at once, or values, than the limits allow."""
    table = table_of(procedures)
    names = names_of_units(table)
    main = UnitWriter(names)
    main.write_body({name: (False, cell) for cell, name in enumerate(shared)}, body)
    writers = {"main": main}
    waiting = list(main.called)
    while waiting:
        name = waiting.pop()
        if not fits_boxes(table[name]):
            return None
        if names[name] not in writers:
            writer = UnitWriter(names)
            writer.write_procedure({told: (True, cell) for cell, told in enumerate(shared)}, table[name])
            writers[names[name]] = writer
            waiting.extend(writer.called)
    if any([writer.cells > MOST_CELLS for writer in writers.values()]):
        return None
    return {name: (writer.cells, writer.written) for name, writer in writers.items()}
