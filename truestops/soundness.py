"""The first row of units that is not sound."""

from truestops.leading import led_to
from truestops.rowforms import each_row, leads_to, units_called

# The words of rows that do not lead on to the next row alone, and of those that bear a label or a name.
LEADING_OTHERWISE = ("go", "pick", "back", "end")
NOTED = ("call", "mark")


class RowSearch:
    """Looks for a row that leads nowhere, stands in a wrong unit, or bears a label or a name a second time."""

    def __init__(self, units):
        self.units = units
        self._labels = {}
        self._names = {}

    def first_bent_row(self):
        for unit in sorted(self.units):
            rows = self.units[unit][1]
            many = len(rows)
            for at, row in enumerate(rows):
                if row[0] in LEADING_OTHERWISE:
                    if not all([ahead < many for ahead in leads_to(at, row)]) or self._is_out_of_place(unit, row):
                        return (unit, at)
                elif at + 1 == many or row[0] in NOTED and self._is_noted(unit, row):
                    return (unit, at)
        return None

    def _is_out_of_place(self, unit, row):
        return row[0] == "back" and unit == "main" or row[0] == "end" and unit != "main"

    def _is_noted(self, unit, row):
        """Notes a label or a name, and returns whether it was noted already, or is of a call to nowhere."""
        if row[0] == "mark":
            if row[1] in self._names:
                return True
            self._names[row[1]] = True
            return False
        if row[1] not in self.units or (unit, row[2]) in self._labels:
            return True
        self._labels[(unit, row[2])] = True
        return False


def first_call_on_ring(units):
    leads = {name: units_called(units[name][1]) for name in units}
    led = {name: led_to(leads, name) for name in units}
    for unit, at, row in each_row(units):
        if row[0] == "call" and unit in led[row[1]]:
            return (unit, at)
    return None


def row_behind(rows, at):
    """The one row to which a row leads without asking, or None."""
    if rows[at][0] in ("read", "pick", "back", "end"):
        return None
    return leads_to(at, rows[at])[0]


def leads_back(rows, start):
    """Whether a row leads back to itself without asking. Each row on such a ring leads to one row alone."""
    at = row_behind(rows, start)
    for _ in range(len(rows)):
        if at is None or at == start:
            return at == start
        at = row_behind(rows, at)
    return False


def has_ring(rows):
    """Whether some rows of a unit lead back to themselves without asking. On each ring one of them goes back."""
    return any([row[0] == "go" and row[1] <= at and leads_back(rows, at) for at, row in enumerate(rows)])


def first_row_on_ring(units):
    for unit in sorted(units):
        rows = units[unit][1]
        if has_ring(rows):
            return (unit, [at for at in range(len(rows)) if leads_back(rows, at)][0])
    return None


def first_unsound(units):
    """The first unsound row of units as (unit, at), or None."""
    found = RowSearch(units).first_bent_row()
    if found is None:
        found = first_call_on_ring(units)
    if found is None:
        found = first_row_on_ring(units)
    return found
