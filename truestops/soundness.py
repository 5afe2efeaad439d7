"""The first row of units that is not sound."""

from truestops.leading import led_to
from truestops.rowforms import each_row, leads_to, units_called


def first_bent_row(units):
    """The first row that leads nowhere, stands in a wrong unit, or bears a label or a name a second time."""
    labels = {}
    names = {}
    for unit, at, row in each_row(units):
        word = row[0]
        if not all([ahead < len(units[unit][1]) for ahead in leads_to(at, row)]):
            return (unit, at)
        if word == "back" and unit == "main" or word == "end" and unit != "main":
            return (unit, at)
        if word == "call" and (row[1] not in units or (unit, row[2]) in labels):
            return (unit, at)
        if word == "mark" and row[1] in names:
            return (unit, at)
        if word == "call":
            labels[(unit, row[2])] = True
        elif word == "mark":
            names[row[1]] = True
    return None


def first_call_on_ring(units):
    leads = {name: units_called(units[name][1]) for name in units}
    led = {name: led_to(leads, name) for name in units}
    for unit, at, row in each_row(units):
        if row[0] == "call" and unit in led[row[1]]:
            return (unit, at)
    return None


def row_behind(rows, at):
    """The one row to which a row leads without asking, or None."""
    if rows[at][0] in ("read", "pick", "back", "end"):
        return None
    return leads_to(at, rows[at])[0]


def leads_back(rows, start):
    """Whether a row leads back to itself without asking. Each row on such a ring leads to one row alone."""
    at = row_behind(rows, start)
    for _ in range(len(rows)):
        if at is None or at == start:
            return at == start
        at = row_behind(rows, at)
    return False


def first_row_on_ring(units):
    for unit, at, _ in each_row(units):
        if leads_back(units[unit][1], at):
            return (unit, at)
    return None


def first_unsound(units):
    """The first unsound row of units as (unit, at), or None."""
    found = first_bent_row(units)
    if found is None:
        found = first_call_on_ring(units)
    if found is None:
        found = first_row_on_ring(units)
    return found
