"""The forms of rows and units, and copies of them."""

from truestops.forms import is_count, is_name

MOST_CELLS = 8
MOST_BOXES = 4
FEWEST_WAYS = 2
MOST_WAYS = 4
# What stands behind the word of a row, by the kinds that is_part knows.
PARTS_OF_ROWS = {
    "set": ("box", "number"),
    "copy": ("box", "box"),
    "times": ("box", "number"),
    "more": ("box", "number"),
    "add": ("box", "box"),
    "take": ("box", "cell"),
    "keep": ("cell", "box"),
    "fetch": ("box", "global"),
    "store": ("global", "box"),
    "read": ("box",),
    "print": ("box",),
    "pick": ("ats",),
    "go": ("at",),
    "call": ("name", "name"),
    "back": (),
    "mark": ("name", "stops"),
    "end": (),
}
# The words of rows that do nothing but change one holder.
CHANGING = ("set", "copy", "times", "more", "add", "take", "keep", "fetch", "store")

# The words of all rows that do something and then lead on to the next one.
LEADING_ON = ("set", "copy", "times", "more", "add", "take", "keep", "fetch", "store", "print", "mark")


def is_count_of_boxes(value):
    return is_count(value) and 1 <= value <= MOST_BOXES


def are_ats(value):
    return type(value) is list and FEWEST_WAYS <= len(value) <= MOST_WAYS and all([is_count(at) for at in value])


def are_labels(value):
    return type(value) is tuple and len(value) > 0 and all([is_name(label) for label in value])


def are_stops(value):
    if type(value) is not list or not value or not all([are_labels(stop) for stop in value]):
        return False
    return all([value[at - 1] < value[at] for at in range(1, len(value))])


class Sizes:
    """What the parts of a row are measured by: the prime, the boxes, the cells of the unit and of main."""

    def __init__(self, prime, boxes, cells, main_cells):
        self.limits = {"number": prime, "box": boxes, "cell": cells, "global": main_cells}

    def is_row(self, value):
        if type(value) is not tuple or not value or type(value[0]) is not str or value[0] not in PARTS_OF_ROWS:
            return False
        kinds = PARTS_OF_ROWS[value[0]]
        if len(value) != 1 + len(kinds):
            return False
        for kind, part in zip(kinds, value[1:]):
            if kind in self.limits:
                if type(part) is not int or not 0 <= part < self.limits[kind]:
                    return False
            elif not is_other_part(kind, part):
                return False
        return True


def is_other_part(kind, value):
    """Whether a value is a part of a row that no size bounds."""
    if kind == "at":
        return is_count(value)
    if kind == "ats":
        return are_ats(value)
    if kind == "stops":
        return are_stops(value)
    return is_name(value)


def is_shell(value):
    """Whether a value has the form of a unit, whatever its rows are."""
    if type(value) is not tuple or len(value) != 2 or not is_count(value[0]) or value[0] > MOST_CELLS:
        return False
    return type(value[1]) is list and len(value[1]) > 0


def are_units(prime, boxes, value):
    """Whether a value leads names to units. Where there is no main, it counts with as many cells as can be."""
    if type(value) is not dict or not all([is_name(name) for name in value]):
        return False
    if not all([is_shell(unit) for unit in value.values()]):
        return False
    main_cells = value["main"][0] if "main" in value else MOST_CELLS
    for cells, rows in value.values():
        sizes = Sizes(prime, boxes, cells, main_cells)
        if not all([sizes.is_row(row) for row in rows]):
            return False
    return True


def copy_row(row):
    """A copy of a row; those that hold no list never change, so they are their own copies."""
    if row[0] == "pick":
        return ("pick", list(row[1]))
    return ("mark", row[1], list(row[2])) if row[0] == "mark" else row


def copy_units(units):
    """A copy of units, in the ascending order of their names."""
    return {name: (units[name][0], [copy_row(row) for row in units[name][1]]) for name in sorted(units)}


def each_row(units):
    """The list of tuples (unit, at, row) of all rows, units ascending."""
    found = []
    for name in sorted(units):
        found.extend([(name, at, row) for at, row in enumerate(units[name][1])])
    return found


def leads_to(at, row):
    """The rows of its unit to which a row leads; a call leads on behind itself."""
    if row[0] == "pick":
        return row[1]
    if row[0] == "go":
        return [row[1]]
    if row[0] in ("back", "end"):
        return []
    return [at + 1]


def units_called(rows):
    return [row[1] for row in rows if row[0] == "call"]
