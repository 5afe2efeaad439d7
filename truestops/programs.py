"""Programs, their runs and their texts."""

from truestops.beats import Beats
from truestops.errors import Fault, InvalidProgram, InvalidText, UnknownStop
from truestops.faults import first_fault
from truestops.forms import is_names, require_prime
from truestops.opening import Flow
from truestops.parsing import read_parts
from truestops.statements import are_procedures, copy_block, copy_procedures, is_block
from truestops.walks import Walk
from truestops.writing import program_lines


class Program:
    """A program that never changes. `flow` is its opened text, `beats` how it goes from asking to asking."""

    def __init__(self, prime, shared, procedures, body):
        require_prime(prime)
        if not is_names(shared):
            raise InvalidProgram(shared)
        if not are_procedures(prime, procedures):
            raise InvalidProgram(procedures)
        if not is_block(prime, body):
            raise InvalidProgram(body)
        fault = first_fault(shared, procedures, body)
        if fault is not None:
            raise Fault((fault[0], fault[1]))
        self._prime = prime
        self._shared = list(shared)
        self._procedures = copy_procedures(procedures)
        self._body = copy_block(body)
        self.flow = Flow(prime, self._shared, self._procedures, self._body)
        self.beats = Beats(self.flow)

    def prime(self):
        return self._prime

    def shared(self):
        return list(self._shared)

    def procedures(self):
        return copy_procedures(self._procedures)

    def body(self):
        return copy_block(self._body)

    def __eq__(self, other):
        if not isinstance(other, Program):
            return False
        mine = (self._prime, self._shared, self._procedures, self._body)
        return mine == (other._prime, other._shared, other._procedures, other._body)


def require_program(program):
    if not isinstance(program, Program):
        raise InvalidProgram(program)


def require_stop(program, stop):
    require_program(program)
    if stop not in list(program.flow.passing_places):
        raise UnknownStop(stop)


def run_program(program, inputs):
    require_program(program)
    walk = Walk(program.flow, inputs)
    return (walk.beats, walk.stretch.asked)


def all_stops(program):
    require_program(program)
    return list(program.flow.passing_places)


def holders_at(program, stop):
    require_stop(program, stop)
    return list(program.flow.living(program.flow.passing_places[stop]))


def in_sight(program, stop):
    require_stop(program, stop)
    return dict(program.flow.sights[stop])


def passed_stops(program, inputs):
    require_program(program)
    return Walk(program.flow, inputs).passed()


def program_text(program):
    require_program(program)
    lines = program_lines(program.prime(), program.shared(), program.procedures(), program.body())
    return "\n".join(lines)


def read_program(text):
    if type(text) is not str:
        raise InvalidText(text)
    prime, shared, procedures, body, spots = read_parts(text)
    fault = first_fault(shared, procedures, body)
    if fault is not None:
        _, word, spot = fault
        raise Fault((0 if spot is None else spots[spot], word))
    return Program(prime, shared, procedures, body)
