"""Whether two engines print alike for all inputs, and papers that show it."""

from truestops.beats import letters_to_try
from truestops.engines import holders_there, require_engines, require_where, state_of, vector_of
from truestops.forms import is_state
from truestops.hulls import Hull
from truestops.tours import Going, Tour, first_turn, next_turn


def tour_of(one, other):
    return Tour([one.beats, other.beats])


def alike(one, other):
    require_engines(one, other)
    return tour_of(one, other).parting is None


def parting_inputs(one, other):
    require_engines(one, other)
    parting = tour_of(one, other).parting
    return None if parting is None else list(parting.inputs)


def states_behind(engines, going):
    """The dictionaries of what lives where the engines stand behind a beat."""
    return [
        state_of(engine.flow.living(turn.beat.place), turn.numbers_after())
        for engine, turn in zip(engines, going.turns)
    ]


def kept_beside(one, other):
    require_engines(one, other)
    return [tuple([list(going.inputs)] + states_behind([one, other], going)) for going in tour_of(one, other).kept]


def enough(one, other):
    require_engines(one, other)
    return len(tour_of(one, other).kept)


def where_beside(one, other, where):
    require_engines(one, other)
    require_where(one, where)
    holders = holders_there(one, where)
    hulls = {}
    found = []
    for going in tour_of(one, other).goings:
        mine, theirs = going.turns
        numbers = mine.numbers_at(where)
        if going.alike and numbers is not None:
            place = other.flow.name_of(theirs.beat.place) if theirs.beat.asks() else None
            hull = hulls.setdefault(place, Hull(one.prime()))
            if hull.take_in(numbers + theirs.numbers_after() + [1]):
                state_there = states_behind([one, other], going)[1]
                found.append((list(going.inputs), state_of(holders, numbers), place, state_there))
    return found


def alike_paper(one, other):
    require_engines(one, other)
    tour = tour_of(one, other)
    if tour.parting is not None:
        return None
    paper = {}
    for going in tour.kept:
        pair = tuple([engine.flow.name_of(place) for engine, place in zip([one, other], going.places())])
        paper.setdefault(pair, []).append(tuple(states_behind([one, other], going)))
    return paper


class Paper:
    """A dictionary that may be a paper that two engines print alike. `joints` holds what it tells, by places."""

    def __init__(self, one, other):
        self.engines = [one, other]
        self.joints = {}
        self._hulls = {}

    def take_in(self, pair, told):
        """Takes in a pair with its list of joint states, and returns whether they are such."""
        if type(pair) is not tuple or len(pair) != 2 or type(told) is not list or not told:
            return False
        flows = [engine.flow for engine in self.engines]
        places = [flow.place_named(name) for flow, name in zip(flows, pair)]
        if None in places or not self._ask_the_same(places):
            return False
        key = (places[0], places[1])
        self.joints[key] = []
        self._hulls[key] = Hull(flows[0].modulus)
        holders = [flow.living(place) for flow, place in zip(flows, places)]
        for joint in told:
            if not are_states(flows[0].modulus, joint, holders):
                return False
            numbers = [vector_of(state, names) for state, names in zip(joint, holders)]
            self.joints[key].append(numbers)
            self._hulls[key].take_in(numbers[0] + numbers[1] + [1])
        return True

    def _ask_the_same(self, places):
        asked = [engine.beats.asked_there(place) for engine, place in zip(self.engines, places)]
        return asked[0] == asked[1]

    def covers(self, going):
        """Whether engines print alike in a beat, and both end behind it or stand in a mixture of what is told."""
        if not going.alike:
            return False
        if not going.asks():
            return True
        return going.places() in self._hulls and self._hulls[going.places()].holds(going.joint_after() + [1])

    def covers_all(self):
        if not self.covers(Going([], [first_turn(engine.beats) for engine in self.engines])):
            return False
        for places, joints in self.joints.items():
            letters = letters_to_try(self.engines[0].beats.asked_there(places[0]))
            for numbers in joints:
                if not all([self.covers(self._going(places, numbers, letter)) for letter in letters]):
                    return False
        return True

    def _going(self, places, numbers, letter):
        turns = [
            next_turn(engine.beats, place, held, letter)
            for engine, place, held in zip(self.engines, places, numbers)
        ]
        return Going([letter], turns)


def are_states(prime, joint, holders):
    if type(joint) is not tuple or len(joint) != 2:
        return False
    return all([is_state(prime, state, names) for state, names in zip(joint, holders)])


def is_alike_paper(one, other, value):
    require_engines(one, other)
    paper = Paper(one, other)
    if type(value) is not dict or not all([paper.take_in(pair, told) for pair, told in value.items()]):
        return False
    return paper.covers_all()
