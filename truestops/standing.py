"""Where a session stands: what the rows hold without changes, the changes, and how far the program was moved.

A session runs the rows alone. Of the program it knows what the moves make of it: stirs go on by sums as holders do.
"""

from truestops.engines import vector_of
from truestops.tours import Turn


def raised(prime, numbers, amounts):
    return [(a + b) % prime for a, b in zip(numbers, amounts)]


class Standing:
    """A place in a run with its numbers. It never changes; going on makes another one.

    `here` tells where that is. `base` are the numbers of the rows' holders, `changes` by how much they are changed,
    `stirs` by how much the program's variables are. `mine` and `theirs` are the beats of the program and the rows that
    come, or that have come to their end where something is asked for, and `ahead` how many passes of marks in them are
    behind it already.
    """

    def __init__(self, bench, here, mine, theirs):
        self.bench = bench
        self.here = here
        self.mine = mine
        self.theirs = theirs
        self.base = []
        self.changes = []
        self.stirs = []
        self.inlet = [0, 1]
        self.ahead = 0
        self.exchanged = False

    def modulus(self):
        return self.bench.rows().prime()

    def at_mark(self):
        return self.here[0] == "mark"

    def asks(self):
        return self.here[0] in ("number", "choice")

    def with_numbers(self, base, changes, stirs):
        self.base = base
        self.changes = changes
        self.stirs = stirs
        return self

    def behind(self, other):
        """This, behind another standing, where there has been an exchange if there was one there."""
        self.exchanged = other.exchanged
        return self

    def variables(self):
        return self.bench.joints.variables(self.here[2])

    def holders(self):
        return self.bench.joints.holders(self.here[1])

    def moved(self, stir, change):
        """This mark with the variables moved by a stir and the holders by a change."""
        changes = raised(self.modulus(), self.changes, vector_of(change, self.holders()))
        stirs = raised(self.modulus(), self.stirs, vector_of(stir, self.variables()))
        return at_mark(self.bench, self.here[1], self.here[2]).with_numbers(self.base, changes, stirs).behind(self)


def at_beginning(bench):
    return Standing(bench, ("begin",), bench.program().beats.first(), bench.rows().beats.first())


def at_mark(bench, mark, stop):
    """A standing at a mark and its stop, without numbers."""
    beat = bench.joints.rest((mark, stop))
    told = Standing(bench, ("mark", mark, stop), beat.mine, beat.theirs)
    told.ahead = 1
    return told


def behind_letter(standing, letter):
    """The standing behind a letter that is given where something is asked for."""
    bench = standing.bench
    mine = bench.program().beats.behind(standing.mine.place, letter)
    theirs = bench.rows().beats.behind(standing.theirs.place, letter)
    told = Standing(bench, ("given",), mine, theirs)
    told.inlet = [letter[1] if letter[0] == "number" else 0, 1]
    return told.with_numbers(standing.base, standing.changes, standing.stirs).behind(standing)


class Leg:
    """The way from a standing to the next mark, asking or end: `end` stands there, and these were printed."""

    def __init__(self, standing):
        modulus = standing.modulus()
        self._start = standing
        self._base = Turn(modulus, standing.theirs, standing.base + standing.inlet)
        self._changed = Turn(modulus, standing.theirs, standing.changes + [0, 0])
        self._stirred = Turn(modulus, standing.mine, standing.stirs + [0, 0])
        passes = standing.theirs.passes[standing.ahead:]
        many = passes[0][2] if passes else len(standing.theirs.prints)
        base = self._base.reckoned(standing.theirs.prints[:many])
        self.printed = raised(modulus, base, self._changed.reckoned(standing.theirs.prints[:many]))
        self.would = raised(modulus, base, self._stirred.reckoned(standing.mine.prints[:many]))
        self.end = self._mark_at(passes[0]) if passes else self._asking()
        self.end.behind(standing)

    def _mark_at(self, passed):
        mark, vectors, _ = passed
        bench = self._start.bench
        stops = bench.rows().flow.stops_of(mark)
        stop, mine = [(told, inner) for told, inner, _ in self._start.mine.passes if told in stops][0]
        base, changes = self._base.reckoned(vectors), self._changed.reckoned(vectors)
        return at_mark(bench, mark, stop).with_numbers(base, changes, self._stirred.reckoned(mine))

    def _asking(self):
        start = self._start
        told = Standing(start.bench, start.theirs.asked, start.mine, start.theirs)
        base, changes = self._base.numbers_after(), self._changed.numbers_after()
        return told.with_numbers(base, changes, self._stirred.numbers_after())
