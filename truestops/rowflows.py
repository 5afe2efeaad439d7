"""The flow of rows: their rows with all calls opened, as points at places (path, unit, at).

Points are those of a program's flow, so that the same walks and beats go by both.
"""

from truestops.rowforms import CHANGING, LEADING_ON, each_row
from truestops.walks import BEGINS, COPIES, ECHOES, PASSES, SETS, deed_of_sum


BOXES = ("#0", "#1", "#2", "#3")

def name_of_box(box):
    return BOXES[box]


def name_of_cell(depth, cell):
    return f"@{depth}.{cell}"


def without_noughts(modulus, wanted):
    return {name: factor % modulus for name, factor in wanted.items() if factor % modulus}


def change_of(modulus, row, depth):
    """The holder that a changing row changes, in a frame at a depth, and the sum that the holder becomes."""
    word, first, second = row
    if word == "keep":
        return (name_of_cell(depth, first), {name_of_box(second): 1})
    if word == "store":
        return (name_of_cell(0, first), {name_of_box(second): 1})
    box = name_of_box(first)
    if word == "take":
        return (box, {name_of_cell(depth, second): 1})
    if word == "fetch":
        return (box, {name_of_cell(0, second): 1})
    if word == "copy":
        return (box, {name_of_box(second): 1})
    if word == "set":
        return (box, without_noughts(modulus, {"": second}))
    if word == "times":
        return (box, without_noughts(modulus, {box: second}))
    if word == "more":
        return (box, without_noughts(modulus, {box: 1, "": second}))
    return (box, without_noughts(modulus, {box: 2})) if first == second else (box, {box: 1, name_of_box(second): 1})


class RowFlow:
    """The points of sound units. `paths` leads each path to the name of the unit that it opens."""

    def __init__(self, modulus, boxes, units):
        self.modulus = modulus
        self.start = ((), "", 0)
        self.paths = {}
        self.passing_places = {}
        self.stretches = {}
        self._units = units
        self._boxes = [name_of_box(box) for box in range(boxes)]
        self._living = {}
        self._returns = {}
        self._stops = {}
        self._points = {}
        # What rows do in a frame at a depth: equal rows do the same.
        self._deeds = {}
        self._open((), "main", self._boxes)

    def _open(self, path, name, outer):
        """Opens a unit at a path, with the holders that live around it, and all units that its rows call."""
        cells = self._units[name][0]
        holders = sorted(outer + [name_of_cell(len(path), cell) for cell in range(cells)])
        self.paths[path] = name
        self._living[path] = holders
        for at, row in enumerate(self._units[name][1]):
            if row[0] == "mark":
                self.passing_places[(row[1], path)] = (path, name, at)
            elif row[0] == "call":
                self._returns[path + (row[2],)] = (path, name, at + 1)
                self._open(path + (row[2],), row[1], holders)

    def row(self, place):
        return self._units[place[1]][1][place[2]]

    def rows_of_units(self):
        return each_row(self._units)

    def stops_of(self, mark):
        """The stops of a mark, ascending: the path, and each of its row's tuples of labels behind it. Callers do not
        change the list."""
        if mark not in self._stops:
            self._stops[mark] = [mark[1] + labels for labels in self.row(self.passing_places[mark])[2]]
        return self._stops[mark]

    def holders_along(self, path):
        """The ascending list of the holders that live by a path."""
        return self._living[path]

    def living(self, place):
        return self._living[place[0]]

    def name_of(self, place):
        return place

    def place_named(self, told):
        if type(told) is not tuple or len(told) != 3 or type(told[2]) is not int:
            return None
        path, unit, at = told
        if path not in list(self.paths) or self.paths[path] != unit or not 0 <= at < len(self._units[unit][1]):
            return None
        return told if self.row(told)[0] in ("read", "pick") else None

    def point(self, place):
        if place not in self._points:
            self._points[place] = self._point_of(place)
        return self._points[place]

    def steps_from(self, place):
        """As by the points, which need not be made for this."""
        if place == self.start:
            way, steps = self.steps_from(((), "main", 0))
            return [place] + way, [(BEGINS, None, None, self._living[()])] + steps
        way = [place]
        steps = []
        path, unit, at = place
        row = self._units[unit][1][at]
        while row[0] not in ("read", "pick", "end"):
            if row[0] in LEADING_ON:
                steps.append(self._deed_of(path, row))
                at += 1
            elif row[0] == "go":
                at = row[1]
            elif row[0] == "call":
                path, unit, at = path + (row[2],), row[1], 0
                steps.append((BEGINS, None, None, self._frame(path)))
            else:
                path, unit, at = self._returns[path]
            way.append((path, unit, at))
            row = self._units[unit][1][at]
        return way, steps

    def _deed_of(self, path, row):
        """What a row that leads on to the next one does."""
        if row[0] == "mark":
            return (PASSES, (row[1], path), None, self._living[path])
        key = (len(path), row)
        if key not in self._deeds:
            if row[0] == "print":
                self._deeds[key] = (ECHOES, None, 0, name_of_box(row[1]))
            else:
                holder, wanted = change_of(self.modulus, row, len(path))
                self._deeds[key] = deed_of_sum(SETS, COPIES, holder, wanted)
        return self._deeds[key]

    def _frame(self, path):
        return [name_of_cell(len(path), cell) for cell in range(self._units[self.paths[path]][0])]

    def _point_of(self, place):
        if place == self.start:
            return ("live", self._living[()], ((), "main", 0))
        path, unit, at = place
        row = self.row(place)
        word, behind = row[0], (path, unit, at + 1)
        if word in CHANGING:
            holder, wanted = change_of(self.modulus, row, len(path))
            return ("set", holder, wanted, behind)
        if word == "mark":
            return ("pass", (row[1], path), behind)
        if word == "print":
            return ("print", {name_of_box(row[1]): 1}, behind)
        if word == "read":
            return ("read", name_of_box(row[1]), behind)
        if word == "pick":
            return ("pick", [(path, unit, ahead) for ahead in row[1]])
        if word == "go":
            return ("live", [], (path, unit, row[1]))
        if word == "call":
            inner = path + (row[2],)
            return ("live", self._frame(inner), (inner, row[1], 0))
        if word == "back":
            return ("gone", self._frame(path), self._returns[path])
        return ("end",)
