"""The faults of a program that has the form of one, in the order of its text."""

from truestops.leading import led_to
from truestops.opening import Sizes, Stops, table_of
from truestops.statements import blocks_of, changed_by, sums_of

MOST_PLACES = 60
MOST_STOPS = 12


def names_called(block):
    """The names that the calls of a block have, those of the blocks in it, too."""
    found = []
    for statement in block[1]:
        if statement[0] == "call":
            found.append(statement[2])
        for inner in blocks_of(statement):
            found.extend(names_called(inner))
    return found


def names_of(statement):
    """The variables that a statement names."""
    found = list(changed_by(statement))
    for wanted in sums_of(statement):
        found.extend([name for name in wanted if name])
    return found


class Search:
    """Goes through a text and notes each fault as (label, word, spot).

    Spots are counted in the order of the text: shared, each procedure, each statement, main. Whoever reads a text
    knows the lines of these.
    """

    def __init__(self, procedures):
        self.faults = []
        self.spots = 0
        self._labels = {}
        self._table = table_of(procedures)
        self._leads = None

    def _is_led_to(self, name, owner):
        """Whether calls lead from a procedure to one."""
        if self._leads is None:
            self._leads = {told: names_called(self._table[told][2]) for told in self._table}
        return owner in led_to(self._leads, name)

    def next_spot(self):
        self.spots += 1
        return self.spots - 1

    def note(self, label, word, spot):
        self.faults.append((label, word, spot))

    def with_variables(self, sight, names, label, spot):
        """What is in sight with the variables of a list, too, each of which needs a name of its own."""
        wider = dict(sight)
        for name in names:
            if name in wider:
                self.note(label, "name", spot)
            wider[name] = True
        return wider

    def go_through_block(self, block, sight, owner, label, spot):
        """Goes through a block of a procedure, `owner`, or of the body (None); label and spot are what it hangs on."""
        own, statements = block
        inner = self.with_variables(sight, own, label, spot) if own else sight
        for statement in statements:
            # Only the first fault counts.
            if self.faults:
                return
            self.go_through_statement(statement, inner, owner)

    def go_through_statement(self, statement, sight, owner):
        label = statement[1]
        spot = self.next_spot()
        if label in self._labels:
            self.note(label, "label", spot)
        self._labels[label] = True
        if not all([name in sight for name in names_of(statement)]):
            self.note(label, "variable", spot)
        if statement[0] == "call":
            self.look_at_call(statement, owner, spot)
        for block in blocks_of(statement):
            self.go_through_block(block, sight, owner, label, spot)

    def look_at_call(self, statement, owner, spot):
        label, name, sums, variables = statement[1:]
        if name not in self._table:
            self.note(label, "call", spot)
            return
        parameters, results, _ = self._table[name]
        if len(parameters) != len(sums) or len(results) != len(variables):
            self.note(label, "call", spot)
        # The body has no name, whatever a procedure is called.
        if owner is not None and self._is_led_to(name, owner):
            self.note(label, "ring", spot)


def faults_of_text(shared, procedures, body):
    """Faults but those of size, in the order of the text; behind the first one not all of them."""
    search = Search(procedures)
    sight = search.with_variables({}, shared, "", search.next_spot())
    earlier = {}
    for name, parameters, results, block in procedures:
        spot = search.next_spot()
        if name in earlier:
            search.note("", "name", spot)
        earlier[name] = True
        inner = search.with_variables(sight, parameters + results, "", spot)
        search.go_through_block(block, inner, name, "", spot)
    search.go_through_block(body, sight, None, "", search.next_spot())
    return search.faults


def first_fault(shared, procedures, body):
    """The first fault as (label, word, spot), the spot None for what is wrong with the whole; None without faults."""
    faults = faults_of_text(shared, procedures, body)
    if faults:
        return faults[0]
    if Sizes(table_of(procedures)).of_program(shared, body) > MOST_PLACES:
        return ("", "places", None)
    if Stops(table_of(procedures)).of_block(body) > MOST_STOPS:
        return ("", "stops", None)
    return None
