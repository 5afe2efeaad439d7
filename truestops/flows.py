"""Flows: the points of programs, and runs by these alone."""

from truestops.errors import InvalidCount
from truestops.forms import is_count
from truestops.programs import require_program
from truestops.walks import Walk


def copy_part(part):
    if type(part) is list:
        return list(part)
    if type(part) is dict:
        return dict(part)
    return part


def points(program):
    require_program(program)
    return [tuple([copy_part(part) for part in point]) for point in program.flow.points]


def stop_places(program):
    require_program(program)
    places = program.flow.passing_places
    return {stop: places[stop] for stop in places}


def alive_at(program, place):
    require_program(program)
    if not is_count(place) or place >= len(program.flow.points):
        raise InvalidCount(place)
    return list(program.flow.living(place))


def way_of(program, inputs):
    require_program(program)
    return list(Walk(program.flow, inputs).stretch.way)


def run_flow(program, inputs):
    require_program(program)
    walk = Walk(program.flow, inputs)
    return (walk.beats, walk.stretch.asked)
