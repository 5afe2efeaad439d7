"""Wishes: told numbers for variables."""

from truestops.forms import is_number


def are_wishes(prime, value):
    """Whether any object leads strings, but not the empty one, to numbers."""
    if type(value) is not dict or not all([type(key) is str and key != "" for key in value]):
        return False
    return all([is_number(prime, number) for number in value.values()])
