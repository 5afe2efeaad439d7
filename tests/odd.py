"""Objects of all kinds that a caller may pass where something else is asked for."""

from truestops.errors import Fault, StopError
from truestops.programs import Program


def odd_objects():
    """New ones with each call, so that a test may look for the very object."""
    return [
        None, True, False, 0, 1, -1, 7, 10 ** 30, "", "x", "ab c", "X", "prime 5",
        [], [0], [[]], [None], [True], ["x"], ["x", "x"], [("x",)], [{}], [[], ()], [(), ()],
        (), (0,), ((),), ([], []), ("x",), ("x", "y"), ("number", 0), ("first", []), (None, None),
        {}, {"": 1}, {"x": 1}, {"x": True}, {1: 2}, {None: []}, {("x",): 0}, [{"": 0}],
        Program(5, ["x"], [], ([], [("read", "a", "x")])), StopError(), Fault(("a", "name")),
    ]
