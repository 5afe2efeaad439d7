"""What is seen later of the holders at a stop or a mark: which stirs show in which numbers, and which never do."""

from truestops.engines import (
    holders_there,
    require_engine,
    require_list,
    require_passed,
    require_stir,
    sum_of,
    vector_of,
)
from truestops.hulls import Hull
from truestops.searches import Search, stirred_turn
from truestops.sights import beats_along, factors_at, seen_from
from truestops.vectors import basis_of, crossing, product_of


def require_place(engine, where):
    require_engine(engine)
    require_passed(engine, where)


def require_place_and_stir(engine, where, stir):
    require_place(engine, where)
    require_stir(engine.prime(), stir, holders_there(engine, where))


def place_of(engine, where):
    return engine.flow.passing_places[where]


def shown(engine, where, stir, going_on):
    require_place_and_stir(engine, where, stir)
    require_list(going_on)
    amounts = vector_of(stir, holders_there(engine, where))
    told = []
    for beat in beats_along(engine.beats, place_of(engine, where), going_on):
        turn = stirred_turn(engine.prime(), beat, amounts)
        told.extend(turn.numbers_printed())
        amounts = turn.numbers_after()
    return told


def seen_basis(engine, where):
    return basis_of(engine.prime(), [seen.factors for seen in seen_from(engine.beats, place_of(engine, where))])


def is_idle(engine, where, stir):
    require_place_and_stir(engine, where, stir)
    amounts = vector_of(stir, holders_there(engine, where))
    return not any([product_of(engine.prime(), factors, amounts) for factors in seen_basis(engine, where)])


def idle_stirs(engine, where):
    require_place(engine, where)
    holders = holders_there(engine, where)
    basis = crossing(engine.prime(), seen_basis(engine, where), len(holders))
    return [sum_of(vector, holders) for vector in basis]


def seen_sums(engine, where):
    require_place(engine, where)
    return [sum_of(vector, holders_there(engine, where)) for vector in seen_basis(engine, where)]


def showing(engine, where, stir):
    require_place_and_stir(engine, where, stir)
    amounts = vector_of(stir, holders_there(engine, where))
    return Search(engine.beats, place_of(engine, where), amounts).hit


def seen_paper(engine, where):
    require_place(engine, where)
    return [(list(seen.letters), seen.position) for seen in seen_from(engine.beats, place_of(engine, where))]


def is_seen_paper(engine, where, value):
    require_place(engine, where)
    basis = seen_basis(engine, where)
    if type(value) is not list or len(value) != len(basis):
        return False
    hull = Hull(engine.prime())
    for item in value:
        if type(item) is not tuple or len(item) != 2:
            return False
        factors = factors_at(engine.beats, place_of(engine, where), item[0], item[1])
        # As many as the seen sums are, they are put together of these only if none of these is one of the others.
        if factors is None or not hull.take_in(factors):
            return False
    return True
