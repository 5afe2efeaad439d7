"""Spans: all states in which runs of an engine pass a stop or a mark, told by finitely many of them."""

from truestops.engines import (
    holders_there,
    require_engine,
    require_list,
    require_sum,
    require_where,
    state_of,
    sum_of,
    vector_of,
)
from truestops.forms import is_state
from truestops.hulls import Hull
from truestops.tours import lone_tour
from truestops.vectors import crossing, product_of
from truestops.walks import Walk


def require_place(engine, where):
    require_engine(engine)
    require_where(engine, where)


def require_place_and_sum(engine, where, wanted):
    require_place(engine, where)
    require_sum(engine.prime(), wanted, holders_there(engine, where))


def kept_numbers(engine, where):
    """The tuples (inputs, numbers) of the runs that are kept; the inputs are the tour's own."""
    hull = Hull(engine.prime())
    kept = []
    for going in lone_tour(engine.beats).goings:
        numbers = going.turns[0].numbers_at(where)
        if numbers is not None and hull.take_in(numbers + [1]):
            kept.append((going.inputs, numbers))
    return kept


def state_at(engine, where, inputs):
    require_place(engine, where)
    require_list(inputs)
    return Walk(engine.flow, inputs).state_passed(where)


def kept_at(engine, where):
    require_place(engine, where)
    holders = holders_there(engine, where)
    return [(list(inputs), state_of(holders, numbers)) for inputs, numbers in kept_numbers(engine, where)]


def is_mixture(engine, where, value):
    require_place(engine, where)
    holders = holders_there(engine, where)
    if not is_state(engine.prime(), value, holders):
        return False
    hull = Hull(engine.prime())
    for _, numbers in kept_numbers(engine, where):
        hull.take_in(numbers + [1])
    return hull.holds(vector_of(value, holders) + [1])


def always(engine, where, wanted):
    require_place_and_sum(engine, where, wanted)
    factors = vector_of(wanted, holders_there(engine, where) + [""])
    kept = kept_numbers(engine, where)
    if not kept:
        return ("never",)
    told = [product_of(engine.prime(), factors, numbers + [1]) for _, numbers in kept]
    for number, (inputs, _) in zip(told, kept):
        if number != told[0]:
            return ("breaks", list(kept[0][0]), list(inputs))
    return ("always", told[0])


def always_zero(engine, where):
    require_place(engine, where)
    kept = kept_numbers(engine, where)
    if not kept:
        return None
    keys = holders_there(engine, where) + [""]
    basis = crossing(engine.prime(), [numbers + [1] for _, numbers in kept], len(keys))
    return [sum_of(vector, keys) for vector in basis]


def is_always_zero(engine, where, wanted):
    require_place_and_sum(engine, where, wanted)
    factors = vector_of(wanted, holders_there(engine, where) + [""])
    return not any([product_of(engine.prime(), factors, numbers + [1]) for _, numbers in kept_numbers(engine, where)])
