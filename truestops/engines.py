"""What programs and rows have in common where either may stand: places, states, sums of their holders."""

from truestops.errors import (
    InvalidEngine,
    InvalidInputs,
    InvalidSum,
    NeverPassed,
    UnknownHolder,
    UnknownMark,
    UnknownStop,
    UnlikePrimes,
)
from truestops.forms import is_stir, is_sum
from truestops.programs import Program
from truestops.rows import Rows
from truestops.tours import lone_tour


def is_program(engine):
    return isinstance(engine, Program)


def require_engine(engine):
    if not isinstance(engine, Program) and not isinstance(engine, Rows):
        raise InvalidEngine(engine)


def require_engines(one, other):
    require_engine(one)
    require_engine(other)
    if one.prime() != other.prime():
        raise UnlikePrimes(other)


def require_where(engine, where):
    """The errors of a stop of a program or a mark of rows; the engine is one."""
    if where in list(engine.flow.passing_places):
        return
    if is_program(engine):
        raise UnknownStop(where)
    raise UnknownMark(where)


def is_passed(engine, where):
    """Whether some run passes this."""
    return any([going.turns[0].comes_by(where) for going in lone_tour(engine.beats).goings])


def require_passed(engine, where):
    """The errors of a stop, or of a mark that some run has to pass. Each stop of a program is passed by one."""
    require_where(engine, where)
    if not is_passed(engine, where):
        raise NeverPassed(where)


def holders_there(engine, where):
    return engine.flow.living(engine.flow.passing_places[where])


def require_known(wanted, holders):
    for name in sorted(wanted):
        if name and name not in holders:
            raise UnknownHolder(name)


def require_sum(prime, wanted, holders):
    if not is_sum(prime, wanted):
        raise InvalidSum(wanted)
    require_known(wanted, holders)


def is_known_sum(prime, value, keys):
    """Whether any object is a sum of what is among these keys."""
    return is_sum(prime, value) and all([name in keys for name in value])


def require_stir(prime, stir, holders):
    if not is_stir(prime, stir):
        raise InvalidSum(stir)
    require_known(stir, holders)


def require_list(inputs):
    if type(inputs) is not list:
        raise InvalidInputs(inputs)


def vector_of(wanted, keys):
    """The factors of a sum, or the numbers of a state, in the order of keys."""
    return [wanted.get(key, 0) for key in keys]


def sum_of(vector, keys):
    """The sum with these factors at keys, told in the ascending order of the keys."""
    factors = {key: factor for key, factor in zip(keys, vector) if factor}
    return {key: factors[key] for key in sorted(factors)}


def state_of(holders, numbers):
    return dict(zip(holders, numbers))
