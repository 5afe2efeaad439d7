"""Sessions by the second reckonings: program and rows are run from the beginning with each question."""

from truestops.benches import stops_of
from truestops.exchange import exchange_rule, sure_rule
from truestops.fitting import fitting_at
from truestops.moving import change_for
from truestops.numbers import nothings
from truestops.putting import counted_sums
from truestops.reading import read_rule, readable


class Hand:
    """Where a session stands that began at the beginning of a stock's rows, and what it has printed. Never changes."""

    def __init__(self, stock):
        self.stock = stock
        self.letters = ()
        self.at = None
        self.kind = "begin"
        # Tuples (stop, beat, stir) of all moves, and of those that are carried out in the rows as they are now.
        self.moves = ()
        self.carried = ()
        self.beats = ((),)
        self.would = ((),)
        self.exchanged = False

    def copy(self, **told):
        twin = Hand(self.stock)
        twin.__dict__.update(self.__dict__)
        twin.__dict__.update(told)
        return twin

    def program(self, moves=()):
        return self.stock.one.told(list(self.letters), list(moves))

    def rows(self):
        return self.stock.other.told(list(self.letters))

    def asked(self):
        return self.program().asked

    def mark(self):
        return self.rows().passed[self.at][0]

    def stop(self):
        return self.stop_of(self.mark())

    def stop_of(self, mark):
        passed = [stop for stop, _, _ in self.program().passed]
        return [stop for stop in stops_of(self.stock.bench, mark) if stop in passed][0]

    def here(self):
        if self.kind == "mark":
            return ("mark", self.mark(), self.stop())
        return self.asked() if self.kind == "asks" else (self.kind,)

    def gone(self):
        if self.kind in ("asks", "end"):
            return self
        passed = self.rows().passed
        done = 0 if self.at is None else passed[self.at][2]
        at = 0 if self.at is None else self.at + 1
        carried, would = [self.program(moves).beats[-1] for moves in (self.carried, self.moves)]
        if at < len(passed):
            to, kind = passed[at][2], "mark"
        else:
            to, kind, at = len(carried), "end" if self.asked() == ("end",) else "asks", None
        return self.copy(
            at=at, kind=kind, beats=self.beats[:-1] + (self.beats[-1] + tuple(carried[done:to]),),
            would=self.would[:-1] + (self.would[-1] + tuple(would[done:to]),),
        )

    def answered(self, letter):
        return self.copy(letters=self.letters + (letter,), kind="given", at=None, beats=self.beats + ((),), would=self.would + ((),))

    def numbers(self):
        """What the variables hold in the program behind all moves."""
        return dict(self.program(self.moves).left)[self.stop()]

    def rule(self, wanted, mark=None, stop=None):
        mark, stop = mark or self.mark(), stop or self.stop()
        if self.exchanged:
            return sure_rule((self.stock.bench, mark, stop), wanted)
        return read_rule(self.stock.bench, mark, stop, wanted)

    def read(self, wanted):
        if self.rule(wanted) is None:
            return None
        numbers = self.numbers()
        return sum(n * (numbers[name] if name else 1) for name, n in wanted.items()) % self.stock.prime

    def moved(self, stir, carried):
        told = (self.stop(), len(self.letters), dict(stir))
        return self.copy(moves=self.moves + (told,), carried=self.carried + ((told,) if carried else ()))

    def can_move(self, stir):
        return change_for(self.stock.bench, self.mark(), self.stop(), stir) is not None

    def can_put(self, names):
        if not all(self.can_move({name: 1}) for name in names):
            return False
        counted = counted_sums(self.stock.bench, self.all_readings(), self.mark(), self.stop(), names)
        return all(self.rule(wanted) is not None for wanted in counted)

    def all_readings(self):
        """Readings of all that can be read at any mark."""
        found = []
        for mark, stop in self.stock.bench.passings.true_seats():
            for wanted in self.sums_at(mark, stop):
                found.append(("read", mark, stop, wanted, self.rule(wanted, mark, stop)))
        return found

    def sums_at(self, mark, stop):
        """A basis of all sums that can be read at a mark."""
        if not self.exchanged:
            return readable(self.stock.bench, mark, stop)
        variables = self.stock.bench.joints.variables(stop)
        runs = fitting_at(self.stock.bench, mark, stop).base_runs()
        columns = [list(column) for column in zip(*[run.variables + run.holders + [1] for run in runs])]
        told = [zero[:len(variables)] for zero in nothings(self.stock.prime, columns)]
        return [{name: n for name, n in zip(variables, vector) if n} for vector in told if any(vector)]

    def put(self, wishes):
        numbers = self.numbers()
        stir = {name: (n - numbers[name]) % self.stock.prime for name, n in wishes.items()}
        return self.moved(stir, True)

    def can_exchange(self, other, mark):
        return exchange_rule((self.stock.bench, self.mark(), self.stop()), (other.bench, mark, self.stop()), None) is not None

    def marks_for(self, other):
        """The marks of another stock's rows that are passed in this beat, at this stop."""
        twin = self.copy(stock=other)
        return [mark for mark, _, _ in twin.rows().passed if twin.stop_of(mark) == self.stop()]

    def changed_to(self, other, mark):
        twin = self.copy(stock=other, carried=(), exchanged=True)
        return twin.copy(at=[told for told, _, _ in twin.rows().passed].index(mark))
