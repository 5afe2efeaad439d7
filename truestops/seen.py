"""What is seen later of the holders at a stop or a mark: which stirs show in which numbers, and which never do."""

from truestops.beats import branches
from truestops.engines import (
    holders_there,
    require_engine,
    require_list,
    require_passed,
    require_stir,
    sum_of,
    vector_of,
)
from truestops.errors import InvalidInputs
from truestops.forms import is_count, letter_fits
from truestops.hulls import Hull
from truestops.sights import drawn_back, seen_from
from truestops.tours import Turn
from truestops.vectors import basis_of, crossing, product_of


def require_place(engine, where):
    require_engine(engine)
    require_passed(engine, where)


def require_place_and_stir(engine, where, stir):
    require_place(engine, where)
    require_stir(engine.prime(), stir, holders_there(engine, where))


def place_of(engine, where):
    return engine.flow.passing_places[where]


def beats_along(engine, where, going_on):
    """The rest of the beat at `where`, and the beats behind the letters of a list, all of which have to fit."""
    beats = [engine.beats.rest(place_of(engine, where))]
    for position, letter in enumerate(going_on):
        if not letter_fits(engine.prime(), beats[-1].asked, letter):
            raise InvalidInputs(position)
        beats.append(engine.beats.behind(beats[-1].place, letter))
    return beats


def stirred_turn(engine, beat, amounts):
    """A turn that tells how all is raised if the holders are raised by amounts: letters and 1 raise nothing."""
    return Turn(engine.prime(), beat, amounts + [0, 0])


def shown(engine, where, stir, going_on):
    require_place_and_stir(engine, where, stir)
    require_list(going_on)
    amounts = vector_of(stir, holders_there(engine, where))
    told = []
    for beat in beats_along(engine, where, going_on):
        turn = stirred_turn(engine, beat, amounts)
        told.extend(turn.numbers_printed())
        amounts = turn.numbers_after()
    return told


def seen_basis(engine, where):
    return basis_of(engine.prime(), [seen.factors for seen in seen_from(engine.beats, place_of(engine, where))])


def is_idle(engine, where, stir):
    require_place_and_stir(engine, where, stir)
    amounts = vector_of(stir, holders_there(engine, where))
    return not any([product_of(engine.prime(), factors, amounts) for factors in seen_basis(engine, where)])


def idle_stirs(engine, where):
    require_place(engine, where)
    holders = holders_there(engine, where)
    basis = crossing(engine.prime(), seen_basis(engine, where), len(holders))
    return [sum_of(vector, holders) for vector in basis]


def seen_sums(engine, where):
    require_place(engine, where)
    return [sum_of(vector, holders_there(engine, where)) for vector in seen_basis(engine, where)]


class Search:
    """Goes through all goings-on in order until a stir shows; those behind which it is a sum of earlier ones at the
    same place show nothing new."""

    def __init__(self, engine, where, amounts):
        self.engine = engine
        self.hit = None
        self._hulls = {}
        self._standing = []
        self._look_at([], engine.beats.rest(place_of(engine, where)), amounts, 0)
        at = 0
        while self.hit is None and at < len(self._standing):
            self._go_on_from(self._standing[at])
            at += 1

    def _go_on_from(self, standing):
        letters, place, amounts, many = standing
        for letter in branches(self.engine.beats.asked_there(place)):
            if self.hit is None:
                self._look_at(letters + [letter], self.engine.beats.behind(place, letter), amounts, many)

    def _look_at(self, letters, beat, amounts, many):
        """Looks at the beat behind these letters, ahead of which so many numbers were printed."""
        turn = stirred_turn(self.engine, beat, amounts)
        raised = [at for at, number in enumerate(turn.numbers_printed()) if number]
        if raised:
            self.hit = (letters, many + raised[0])
        elif beat.asks():
            hull = self._hulls.setdefault(beat.place, Hull(self.engine.prime()))
            if hull.take_in(turn.numbers_after()):
                self._standing.append((letters, beat.place, turn.numbers_after(), many + len(beat.prints)))


def showing(engine, where, stir):
    require_place_and_stir(engine, where, stir)
    amounts = vector_of(stir, holders_there(engine, where))
    return Search(engine, where, amounts).hit


def seen_paper(engine, where):
    require_place(engine, where)
    return [(list(seen.letters), seen.position) for seen in seen_from(engine.beats, place_of(engine, where))]


def factors_at(engine, where, item):
    """The factors of the number at a position of a going-on, or None if the item tells no such number."""
    if type(item) is not tuple or len(item) != 2 or type(item[0]) is not list or not is_count(item[1]):
        return None
    going_on, position = item
    try:
        beats = beats_along(engine, where, going_on)
    except InvalidInputs:
        return None
    ahead = []
    for beat in beats:
        if position < len(beat.prints):
            return drawn_along(engine.prime(), ahead, beat.prints[position][:beat.width])
        position -= len(beat.prints)
        ahead.append(beat)
    return None


def drawn_along(prime, beats, factors):
    """The factors of a number behind several beats, by the holders where the first one begins."""
    for beat in reversed(beats):
        factors = drawn_back(prime, beat, factors)
    return factors


def is_seen_paper(engine, where, value):
    require_place(engine, where)
    basis = seen_basis(engine, where)
    if type(value) is not list or len(value) != len(basis):
        return False
    hull = Hull(engine.prime())
    for item in value:
        factors = factors_at(engine, where, item)
        # As many as the seen sums are, they are put together of these only if none of these is one of the others.
        if factors is None or not hull.take_in(factors):
            return False
    return True
