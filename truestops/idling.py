"""Idle rows: rows that change one holder which counts in nothing that is printed behind them.

What is printed on from a place counts the holders by factors; going back row by row these change as the holders do.
"""

from truestops.rowforms import CHANGING
from truestops.sights import sight_of
from truestops.tours import lone_tour


def counted_ahead(modulus, point, counted):
    """What numbers count ahead of a point if behind it they count this: dictionaries from holders to factors."""
    if point[0] == "set":
        return [drawn_ahead(modulus, point[1], point[2], factors) for factors in counted]
    if point[0] == "print":
        return counted + [{name: factor for name, factor in point[1].items() if name}]
    if point[0] == "live" and point[1]:
        return [{name: n for name, n in factors.items() if name not in point[1]} for factors in counted]
    return counted


def drawn_ahead(modulus, holder, wanted, factors):
    """The factors of a number ahead of where a holder becomes a sum."""
    if holder not in factors:
        return factors
    times = factors[holder]
    found = {name: factor for name, factor in factors.items() if name != holder}
    for name, factor in wanted.items():
        if name:
            found[name] = (found.get(name, 0) + times * factor) % modulus
    return {name: factor for name, factor in found.items() if factor}


class Idling:
    """Goes through all rows that some run goes through. `idle` tells of each changing one, as (unit, at), whether it
    is idle: a row may be come to by several paths, and be idle by some."""

    def __init__(self, rows):
        self.idle = {}
        self._rows = rows
        self._counted = {}
        for going in lone_tour(rows.beats).goings:
            if going.fresh:
                self._look_at(going.turns[0].beat)

    def _look_at(self, beat):
        """Looks at the places of a beat that are new, from the last one to the first one."""
        flow = self._rows.flow
        new = 0
        while new < len(beat.way) and beat.way[new] not in self._counted:
            new += 1
        if new == len(beat.way):
            new -= 1
            self._counted[beat.place] = self._counted_at_end(beat)
        counted = self._counted[beat.way[new]]
        for place in reversed(beat.way[:new]):
            point = flow.point(place)
            if point[0] == "set" and flow.row(place)[0] in CHANGING:
                key = (place[1], place[2])
                self.idle[key] = self.idle.get(key, True) and not any([point[1] in factors for factors in counted])
            counted = counted_ahead(flow.modulus, point, counted)
            self._counted[place] = counted

    def _counted_at_end(self, beat):
        if not beat.asks():
            return []
        holders = self._rows.flow.living(beat.place)
        found = []
        for seen in sight_of(self._rows.beats).found[beat.place]:
            found.append({holder: factor for holder, factor in zip(holders, seen.factors) if factor})
        return found


def idle_ones(rows):
    """The ascending list of the idle rows that some run goes through, as (unit, at)."""
    idle = Idling(rows).idle
    return sorted([key for key in idle if idle[key]])
