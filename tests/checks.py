"""What tests of several modules ask for: errors, changed results, names in any order."""

import copy
import itertools
import re
import unittest


class Checks(unittest.TestCase):
    def refused(self, kind, value, function, /, *args):
        """The call raises just this error; where the field is one of the arguments, it is the very object."""
        with self.assertRaises(kind) as caught:
            function(*args)
        self.assertIs(type(caught.exception), kind)
        if any(value is thing for thing in args):
            self.assertIs(caught.exception.value, value)
        else:
            self.assertEqual(repr(caught.exception.value), repr(value))

    def refused_all(self, kind, values, function, /, *args, at):
        """Each of the values is refused as the argument at a position, whatever stands behind it."""
        for value in values:
            self.refused(kind, value, function, *args[:at], value, *args[at + 1:])
            self.refused(kind, value, function, *args[:at], value, *[object()] * (len(args) - at - 1))

    def same_by_names(self, function, /, **named):
        """The function answers the same by the names of its arguments, in any order, also a second time."""
        told = repr(function(*named.values()))
        for order in itertools.permutations(named):
            self.assertEqual(repr(function(**{name: named[name] for name in order})), told)

    def unhurt(self, function, /, *args):
        """What is returned, or was handed, may be changed: the call answers the same again, and hurts no argument."""
        handed = [copy.deepcopy(thing) if isinstance(thing, (list, dict, tuple)) else thing for thing in args]
        told = function(*args)
        self.assertEqual(*[[shown(thing) for thing in things if isinstance(thing, (list, dict, tuple))] for things in (args, handed)])
        before = shown(told)
        spoil(told)
        self.assertEqual(shown(function(*args)), before)


def shown(thing):
    """A thing's text, without the places of objects."""
    return re.sub(" at 0x[0-9a-f]+", "", repr(thing))


def spoil(thing):
    """Changes all lists and dictionaries in a thing."""
    if isinstance(thing, dict):
        for inner in list(thing.values()):
            spoil(inner)
        thing["spoilt"] = 1
    elif isinstance(thing, (list, tuple)):
        for inner in thing:
            spoil(inner)
        if isinstance(thing, list):
            thing.append("spoilt")


def bent_ones(thing):
    """Things that differ from this one in one place: something left out, put in, exchanged, a number changed."""
    if isinstance(thing, bool) or thing is None:
        return [0]
    if isinstance(thing, int):
        return [thing + 1, thing - 1, -1, bool(thing % 2), None, str(thing)]
    if isinstance(thing, str):
        return [thing + "x", thing.upper() + "Q", "", 0, None]
    if isinstance(thing, dict):
        return bent_dicts(thing)
    parts = list(thing)
    lists = [parts[:at] + parts[at + 1:] for at in range(len(parts))] + [parts + [None]] + [parts + [part] for part in parts[:1]]
    lists += [parts[:at] + [bent] + parts[at + 1:] for at in range(len(parts)) for bent in bent_ones(parts[at])]
    lists += [parts[::-1]] if parts[::-1] != parts else []
    kind, other = (list, tuple) if isinstance(thing, list) else (tuple, list)
    return [kind(bent) for bent in lists] + [other(parts)]


def bent_dicts(thing):
    found = [{k: v for k, v in thing.items() if k != left_out} for left_out in thing] + [{**thing, "spoilt": 1}, list(thing)]
    for key in thing:
        found += [{**thing, key: bent} for bent in bent_ones(thing[key])]
    return found
