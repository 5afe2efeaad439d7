"""Rows without calls: each path's unit written out where it is called, with cells of its own."""

from truestops.forms import name_by_count
from truestops.rowflows import RowFlow
from truestops.rowforms import MOST_CELLS


class Unrolling:
    """Writes out all rows with their calls opened. Rows lead to places until all are written."""

    def __init__(self, prime, boxes, units):
        self._units = units
        self._flow = RowFlow(prime, boxes, units)
        self._rows = []
        self._starts = {}
        self._marks = 0
        self._spare = max([self._cells_along(path) for path in self._flow.paths])
        self._write((), "main", 0)

    def _cells_along(self, path):
        """How many cells live by a path."""
        return sum([self._units[self._flow.paths[path[:many]]][0] for many in range(len(path) + 1)])

    def _needs_spare(self):
        """Whether some cells have to be set to 0, and so a box has to be put aside while this is done."""
        return any([path and self._units[name][0] for path, name in self._flow.paths.items()])

    def _write(self, path, name, base):
        """Writes the unit that a path opens; its cells begin with the one told by the base."""
        for at, row in enumerate(self._units[name][1]):
            self._starts[(path, at)] = len(self._rows)
            if row[0] == "call":
                self._write_call(path, row, base + self._units[name][0])
            else:
                self._rows.append(self._written(path, row, base))

    def _write_call(self, path, row, base):
        cells = self._units[row[1]][0]
        if cells:
            self._rows.extend([("keep", self._spare, 0), ("set", 0, 0)])
            self._rows.extend([("keep", base + cell, 0) for cell in range(cells)])
            self._rows.append(("take", 0, self._spare))
        self._write(path + (row[2],), row[1], base)

    def _written(self, path, row, base):
        """A row as it stands where its path opens its unit. The cells of main stay the first ones for all."""
        word = row[0]
        if word == "take":
            return ("take", row[1], base + row[2])
        if word == "keep":
            return ("keep", base + row[1], row[2])
        if word == "go":
            return ("go", (path, row[1]))
        if word == "pick":
            return ("pick", [(path, at) for at in row[1]])
        if word == "back":
            return ("go", self._behind(path))
        if word == "mark":
            self._marks += 1
            return ("mark", name_by_count(self._marks - 1), [path + labels for labels in row[2]])
        return row

    def _behind(self, path):
        """The place behind the call that opens a path."""
        outer = path[:-1]
        for at, row in enumerate(self._units[self._flow.paths[outer]][1]):
            if row[0] == "call" and row[2] == path[-1]:
                return (outer, at + 1)
        return None

    def _resolved(self, row):
        if row[0] == "go":
            return ("go", self._starts[row[1]])
        if row[0] == "pick":
            return ("pick", [self._starts[place] for place in row[1]])
        return row

    def unit(self):
        """The one unit, or None if it would need more cells than there are."""
        cells = self._spare + (1 if self._needs_spare() else 0)
        if cells > MOST_CELLS:
            return None
        return (cells, [self._resolved(row) for row in self._rows])
