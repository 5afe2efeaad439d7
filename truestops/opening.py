"""The flow of a program: its text with all calls opened, as points at places."""

from truestops.statements import ascending, blocks_of
from truestops.walks import steps_by_points


def table_of(procedures):
    """What calls find by a name: of procedures of one name the first one."""
    table = {}
    for name, parameters, results, block in procedures:
        table.setdefault(name, (parameters, results, block))
    return table


def name_of_holder(path, variable):
    return ".".join([*path, variable])


def held(wanted, sight):
    """A sum of variables, told by their holders."""
    return ascending({(sight[name] if name else ""): factor for name, factor in wanted.items()})


class Sizes:
    """How many points the blocks of a program have. Called procedures are there, and calls make no ring.

    Its loops are no comprehensions, since texts may be nested as deep as their lines are long.
    """

    def __init__(self, table):
        self.table = table
        # Calls may double a text again and again, so each procedure is reckoned once.
        self.known = {}

    def of_block(self, block):
        own, statements = block
        many = 2 if own else 0
        for statement in statements:
            many = many + self.of_statement(statement)
        return many

    def of_statement(self, statement):
        if statement[0] == "pass":
            return 1
        if statement[0] == "call":
            return 1 + self.of_procedure(statement[2])
        many = 2
        for block in blocks_of(statement):
            many = many + self.of_block(block)
        return many

    def of_procedure(self, name):
        if name not in self.known:
            parameters, results, block = self.table[name]
            many = len(parameters) + len(results)
            self.known[name] = (many + 2 if many else 0) + self.of_block(block)
        return self.known[name]

    def of_program(self, shared, body):
        return (1 if shared else 0) + self.of_block(body) + 1


class Stops:
    """How many stops the blocks of a program have, with those of called procedures; these are there, without a ring."""

    def __init__(self, table):
        self.table = table
        self.known = {}

    def of_block(self, block):
        many = len(block[1])
        for statement in block[1]:
            if statement[0] == "call":
                many = many + self.of_procedure(statement[2])
            for inner in blocks_of(statement):
                many = many + self.of_block(inner)
        return many

    def of_procedure(self, name):
        if name not in self.known:
            self.known[name] = self.of_block(self.table[name][2])
        return self.known[name]


class Flow:
    """The points of a program, the holders alive ahead of each, and what is in sight at each stop."""

    def __init__(self, modulus, shared, procedures, body):
        self.modulus = modulus
        self.start = 0
        self.points = []
        self.alive = []
        self.sights = {}
        self.passing_places = {}
        self.stretches = {}
        self._table = table_of(procedures)
        self._sizes = Sizes(self._table)
        self._globals = {name: name for name in shared}
        holders = sorted(shared)
        if shared:
            self._add_point(("live", holders, 1), [])
        self._add_block(body, ((), self._globals, holders), self._sizes.of_program(shared, body) - 1)
        self._add_point(("end",), holders)

    def point(self, place):
        return self.points[place]

    def living(self, place):
        """The ascending list of the holders that live ahead of the point at a place."""
        return self.alive[place]

    def steps_from(self, place):
        return steps_by_points(self, place)

    def name_of(self, place):
        """What an asking place is told as: its stop. Each point that asks stands right behind that of its stop."""
        return self.points[place - 1][1]

    def place_named(self, told):
        """The asking place that is told so, or None."""
        if told not in list(self.passing_places):
            return None
        place = self.passing_places[told] + 1
        return place if self.points[place][0] in ("read", "pick") else None

    def _here(self):
        return len(self.points)

    def _add_point(self, point, alive):
        self.points.append(point)
        self.alive.append(sorted(alive))

    def _add_block(self, block, scope, after):
        """Adds the points of a block, behind which the place `after` comes.

        A scope is a tuple: the path, the dictionary of what is in sight, and the list of what lives there.
        """
        own, statements = block
        path, sight, alive = scope
        fresh = {name: name_of_holder(path, name) for name in own}
        holders = sorted(fresh.values())
        if own:
            self._add_point(("live", holders, self._here() + 1), alive)
        inner = (path, {**sight, **fresh}, alive + holders)
        for position, statement in enumerate(statements):
            behind = self._here() + self._sizes.of_statement(statement)
            if not own and position == len(statements) - 1:
                behind = after
            self._add_statement(statement, inner, behind)
        if own:
            self._add_point(("gone", holders, after), inner[2])

    def _add_statement(self, statement, scope, after):
        path, sight, alive = scope
        stop = path + (statement[1],)
        place = self._here()
        many = self._sizes.of_statement(statement)
        self.passing_places[stop] = place
        self.sights[stop] = ascending(sight)
        self._add_point(("pass", stop, after if many == 1 else place + 1), alive)
        if statement[0] == "read":
            self._add_point(("read", sight[statement[2]], after), alive)
        elif statement[0] == "set":
            self._add_point(("set", sight[statement[2]], held(statement[3], sight), after), alive)
        elif statement[0] == "print":
            self._add_point(("print", held(statement[2], sight), after), alive)
        elif statement[0] == "pick":
            self._add_choice(statement[2], [], scope, after)
        elif statement[0] == "again":
            self._add_choice([statement[2]], [after], scope, place)
        elif statement[0] == "call":
            self._add_call(statement, scope, after)

    def _add_choice(self, blocks, ahead, scope, after):
        """Adds a pick point and blocks that it leads to, by the choices behind those of the places told ahead."""
        nexts = list(ahead)
        start = self._here() + 1
        for block in blocks:
            many = self._sizes.of_block(block)
            nexts.append(start if many else after)
            start = start + many
        self._add_point(("pick", nexts), scope[2])
        for block in blocks:
            self._add_block(block, scope, after)

    def _add_call(self, statement, scope, after):
        path, sight, alive = scope
        label, sums, variables = statement[1], statement[3], statement[4]
        parameters, results, block = self._table[statement[2]]
        inner_path = path + (label,)
        fresh = {name: name_of_holder(inner_path, name) for name in parameters + results}
        inner = (inner_path, {**self._globals, **fresh}, alive + list(fresh.values()))
        if not fresh:
            self._add_block(block, inner, after)
            return
        holders = sorted(fresh.values())
        self._add_point(("live", holders, self._here() + 1), alive)
        for name, wanted in zip(parameters, sums):
            self._add_point(("set", fresh[name], held(wanted, sight), self._here() + 1), inner[2])
        self._add_block(block, inner, self._here() + self._sizes.of_block(block))
        for name, variable in zip(results, variables):
            self._add_point(("set", sight[variable], {fresh[name]: 1}, self._here() + 1), inner[2])
        self._add_point(("gone", holders, after), inner[2])
