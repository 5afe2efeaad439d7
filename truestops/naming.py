"""The names of holders, by their form alone."""

from truestops.forms import is_name
from truestops.parsing import read_count


def is_row_holder(value):
    """Whether any object names a holder of rows: a box, or a cell of a frame."""
    if type(value) is not str:
        return False
    if value.startswith("#"):
        return read_count(value[1:]) is not None
    depth, dot, cell = value[1:].partition(".")
    return value.startswith("@") and dot == "." and read_count(depth) is not None and read_count(cell) is not None


def is_holder(value):
    """Whether any object names a holder of a program or of rows."""
    if type(value) is not str:
        return False
    return is_row_holder(value) or all([is_name(part) for part in value.split(".")])
