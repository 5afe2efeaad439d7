"""The rows of a small machine, their units, runs and marks."""

from truestops.beats import Beats
from truestops.errors import InvalidCount, InvalidRows, InvalidUnits, Unsound
from truestops.forms import require_prime
from truestops.rowflows import RowFlow
from truestops.rowforms import are_units, copy_units, is_count_of_boxes, units_called
from truestops.soundness import first_unsound
from truestops.walks import Walk


def require_boxes(boxes):
    if not is_count_of_boxes(boxes):
        raise InvalidCount(boxes)


class Rows:
    """Rows that never change. `flow` is what they open to, `beats` how they go from asking to asking."""

    def __init__(self, prime, boxes, units):
        require_prime(prime)
        require_boxes(boxes)
        if not are_units(prime, boxes, units) or "main" not in units:
            raise InvalidRows(units)
        unsound = first_unsound(units)
        if unsound is not None:
            raise Unsound((unsound[0], unsound[1]))
        self._prime = prime
        self._boxes = boxes
        self._units = copy_units(units)
        self.flow = RowFlow(prime, boxes, self._units)
        self.beats = Beats(self.flow)

    def prime(self):
        return self._prime

    def boxes(self):
        return self._boxes

    def units(self):
        return copy_units(self._units)

    def __eq__(self, other):
        if not isinstance(other, Rows):
            return False
        return (self._prime, self._boxes, self._units) == (other._prime, other._boxes, other._units)


def require_rows(rows):
    if not isinstance(rows, Rows):
        raise InvalidRows(rows)


def run_rows(rows, inputs):
    require_rows(rows)
    walk = Walk(rows.flow, inputs)
    return (walk.beats, walk.stretch.asked)


def stands(rows, inputs):
    require_rows(rows)
    walk = Walk(rows.flow, inputs)
    return (walk.stretch.place, walk.state())


def paths_of(rows):
    require_rows(rows)
    return {path: list(rows.flow.holders_along(path)) for path in sorted(rows.flow.paths)}


def marks_of(rows):
    require_rows(rows)
    return [(mark, list(rows.flow.stops_of(mark))) for mark in sorted(rows.flow.passing_places)]


def passed_marks(rows, inputs):
    require_rows(rows)
    return Walk(rows.flow, inputs).passed()


def united(parts):
    """What is in a list of dictionaries that have no name in common; None if they are none, or have one."""
    if type(parts) is not list or not parts or not all([type(part) is dict for part in parts]):
        return None
    units = {}
    for part in parts:
        if any([name in units for name in part]):
            return None
        units = {**units, **part}
    return units


def linked(prime, boxes, parts):
    require_prime(prime)
    require_boxes(boxes)
    units = united(parts)
    if units is None or not are_units(prime, boxes, units) or "main" not in units:
        raise InvalidUnits(parts)
    return Rows(prime, boxes, units)


def wants(prime, boxes, units):
    require_prime(prime)
    require_boxes(boxes)
    if not are_units(prime, boxes, units):
        raise InvalidUnits(units)
    wanted = {}
    for _, rows in units.values():
        for name in units_called(rows):
            wanted[name] = True
    return sorted([name for name in wanted if name not in units])
