"""Dumps of benches, and sessions that run the rows, read, move, put and exchange, and never lie."""

from truestops.benches import require_bench, require_ordered
from truestops.engines import require_stir, require_sum, require_known, vector_of
from truestops.errors import (
    InvalidDump,
    InvalidLetter,
    InvalidLog,
    InvalidSession,
    InvalidSum,
    NotHere,
    NothingToRedo,
    NothingToUndo,
    Refused,
    Stray,
    Uneven,
    Unlike,
    UnknownMark,
    UnknownStop,
)
from truestops.exchange import exchange_rule
from truestops.forms import is_state, letter_fits
from truestops.seats import Seat
from truestops.standing import Leg, at_beginning, at_mark, behind_letter
from truestops.statements import ascending
from truestops.steering import Knowing, stir_for
from truestops.vectors import product_of
from truestops.wishing import are_wishes

# What stands behind each word of a log.
THINGS_BEHIND = {"go": 0, "answer": 1, "move": 1, "suppose": 1, "put": 1, "exchange": 2}


def require_runnable(bench):
    """The errors of a bench that cannot be run in sessions."""
    require_bench(bench)
    for mark in sorted(bench.rows().flow.passing_places):
        word = bench.passings.word(mark)[0]
        if word == "stray":
            raise Stray(mark)
        if word == "uneven":
            raise Uneven(mark)
    require_ordered(bench)


def is_dump_of(bench, value):
    if type(value) is not tuple or len(value) != 2:
        return False
    mark, state = value
    if mark not in list(bench.rows().flow.passing_places) or bench.passings.word(mark)[0] == "never":
        return False
    return is_state(bench.rows().prime(), state, bench.joints.holders(mark))


def is_dump(bench, value):
    require_bench(bench)
    return is_dump_of(bench, value)


class Moment:
    """A session's standing and what was printed by then. `command` led here from the moment `before`, if any did."""

    def __init__(self, standing, beats, would, before, command):
        self.standing = standing
        self.beats = beats
        self.would = would
        self.before = before
        self.command = command


class Undone:
    """A moment that was taken back, with those that were taken back ahead of it."""

    def __init__(self, moment, earlier):
        self.moment = moment
        self.earlier = earlier


class Kept:
    """What a block brings back when it is left, with what it is to bring back if it was entered before."""

    def __init__(self, now, undone, outer):
        self.now = now
        self.undone = undone
        self.outer = outer


class Block:
    """A block of a session: when it is left the session is as it was."""

    def __init__(self, session):
        self.session = session
        self.kept = None

    def __enter__(self):
        self.kept = Kept(self.session.now, self.session.undone, self.kept)
        return self.session

    def __exit__(self, kind, value, trace):
        session = self.session
        session.now = self.kept.now
        session.undone = self.kept.undone
        self.kept = self.kept.outer


def copied(command):
    """A command of a log with dictionaries of its own."""
    return tuple([ascending(part) if type(part) is dict else part for part in command])


class Session:
    """A run of a bench's rows, moment by moment. `now` is the last one that is not taken back."""

    def __init__(self, bench):
        require_runnable(bench)
        self.now = Moment(at_beginning(bench), [[]], [[]], None, None)
        self.undone = None

    def here(self):
        return self.now.standing.here

    def bench(self):
        return self.now.standing.bench

    def go(self):
        standing = self.now.standing
        if standing.here != ("end",) and not standing.asks():
            leg = Leg(standing)
            beats = self.now.beats[:-1] + [self.now.beats[-1] + leg.printed]
            would = self.now.would[:-1] + [self.now.would[-1] + leg.would]
            self._come_to(leg.end, beats, would, ("go",))
        return self.here()

    def answer(self, letter):
        standing = self.now.standing
        if not standing.asks():
            raise NotHere(self.here())
        if not letter_fits(standing.modulus(), standing.here, letter):
            raise InvalidLetter(letter)
        beats, would = self.now.beats + [[]], self.now.would + [[]]
        self._come_to(behind_letter(standing, letter), beats, would, ("answer", letter))

    def beats(self):
        return [list(beat) for beat in self.now.beats]

    def would(self):
        return [list(beat) for beat in self.now.would]

    def read(self, wanted):
        standing = self._at_mark()
        require_sum(standing.modulus(), wanted, standing.variables())
        return Knowing(standing).number_of(wanted)

    def move(self, stir):
        standing = self._at_mark()
        require_stir(standing.modulus(), stir, standing.variables())
        change = change_at(standing, stir)
        if change is None:
            raise Refused(stir)
        self._stand(standing.moved(stir, change), ("move", stir))

    def suppose(self, stir):
        standing = self._at_mark()
        require_stir(standing.modulus(), stir, standing.variables())
        self._stand(standing.moved(stir, {}), ("suppose", stir))

    def put(self, wishes):
        standing = self._at_mark()
        if not are_wishes(standing.modulus(), wishes):
            raise InvalidSum(wishes)
        require_known(wishes, standing.variables())
        stir = stir_for(standing, wishes)
        if stir is None:
            raise Refused(wishes)
        self._stand(standing.moved(stir, change_at(standing, stir)), ("put", wishes))

    def exchange(self, other, mark):
        standing = self._at_mark()
        _, own_mark, stop = standing.here
        require_bench(other)
        if not other.program() == standing.bench.program():
            raise Unlike(other)
        require_runnable(other)
        if (mark, stop) not in other.passings.true_seats():
            raise UnknownMark(mark)
        rule = exchange_rule((standing.bench, own_mark, stop), (other, mark, stop), None)
        if rule is None:
            raise Refused(mark)
        keys = standing.holders() + [""]
        numbers = standing.base + [1]
        base = [product_of(standing.modulus(), vector_of(wanted, keys), numbers) for wanted in rule.values()]
        told = at_mark(other, mark, stop).with_numbers(base, [0] * len(base), standing.stirs)
        told.exchanged = True
        self._stand(told, ("exchange", other, mark))

    def dump(self):
        standing = self._at_mark()
        return (standing.here[1], dict(zip(standing.holders(), standing.base)))

    def log(self):
        found = []
        moment = self.now
        while moment.before is not None:
            found.append(copied(moment.command))
            moment = moment.before
        return found[::-1]

    def undo(self):
        if self.now.before is None:
            raise NothingToUndo()
        self.undone = Undone(self.now, self.undone)
        self.now = self.now.before

    def redo(self):
        if self.undone is None:
            raise NothingToRedo()
        self.now = self.undone.moment
        self.undone = self.undone.earlier

    def trial(self):
        return Block(self)

    def attempt(self, action):
        with self.trial():
            return action(self)

    def copy(self):
        twin = Session(self.bench())
        twin.now = self.now
        twin.undone = self.undone
        return twin

    def _at_mark(self):
        """The standing of a session that stands at a mark, as most commands want it."""
        if not self.now.standing.at_mark():
            raise NotHere(self.here())
        return self.now.standing

    def _stand(self, standing, command):
        """Makes a command that prints nothing."""
        self._come_to(standing, self.now.beats, self.now.would, command)

    def _come_to(self, standing, beats, would, command):
        self.now = Moment(standing, beats, would, self.now, copied(command))
        self.undone = None


def change_at(standing, stir):
    """Any change that carries a stir out where a session stands, or None."""
    return Seat(standing.bench.joints, standing.here[1], standing.here[2]).change_for(stir)


def opened(bench, dump, stop):
    require_runnable(bench)
    if not is_dump_of(bench, dump):
        raise InvalidDump(dump)
    mark, state = dump
    if (mark, stop) not in bench.passings.true_seats():
        raise UnknownStop(stop)
    told = at_mark(bench, mark, stop)
    base = vector_of(state, told.holders())
    session = Session(bench)
    told.with_numbers(base, [0] * len(base), [0] * len(told.variables()))
    session.now = Moment(told, [[]], [[]], None, None)
    return session


def is_log(value):
    """Whether any object is a list of tuples with a word of logs and as many things behind it."""
    if type(value) is not list or not all([type(command) is tuple and len(command) > 0 for command in value]):
        return False
    for command in value:
        word = command[0]
        if type(word) is not str or word not in THINGS_BEHIND or len(command) != 1 + THINGS_BEHIND[word]:
            return False
    return True


def carry_out(session, command):
    word = command[0]
    if word == "go":
        session.go()
    elif word == "answer":
        session.answer(command[1])
    elif word == "move":
        session.move(command[1])
    elif word == "suppose":
        session.suppose(command[1])
    elif word == "put":
        session.put(command[1])
    else:
        session.exchange(command[1], command[2])


def replayed(session, log):
    if not isinstance(session, Session):
        raise InvalidSession(session)
    if not is_log(log):
        raise InvalidLog(log)
    twin = session.copy()
    for command in log:
        carry_out(twin, command)
    return twin
