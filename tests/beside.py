"""What a program and rows tell beside each other from a mark on, by the second reckonings, stirred by any amounts."""

from tests.machines import letters_for


class Beside:
    """A mark and a stop of some stock; `runs` are the known ones that pass it so, perhaps none."""

    def __init__(self, stock, mark, stop, readings=()):
        self.stock = stock
        self.mark, self.stop = mark, stop
        self.prime = stock.prime
        self.readings = list(readings)
        self.runs = stock.runs(mark, stop)
        self.variables = stock.bench.program().flow.living(stock.bench.program().flow.passing_places[stop])
        self.holders = stock.bench.rows().flow.living(stock.bench.rows().flow.passing_places[mark])
        self.known = {}

    def goings_on(self, most, numbers=1):
        """All goings-on of at most so many letters, in order."""
        level = [[]]
        inputs = self.runs[0][0]
        for _ in range(most + 1):
            yield from level
            level = [g + [letter] for g in level for letter in letters_for(self.stock.one.told(inputs + g).asked, numbers)]

    def beats(self, inputs, going_on, stir, change):
        """For each beat from the mark on what is passed and printed by the program, and by the rows, both stirred."""
        found = []
        for many in range(len(going_on) + 1):
            letters = inputs + going_on[:many]
            mine = self.stock.one.told(letters, (self.stop, len(inputs), stir))
            theirs = self.stock.other.told(letters, (self.mark, len(inputs), change))
            found.append((mine.passed, mine.beats[-1], theirs.passed, theirs.beats[-1]))
        return found

    def told(self, inputs, going_on, stir, change):
        """The tuples (number told by the rows, number that is due), in order, with those of the readings."""
        found = []
        for at, (passed, printed, marks, numbers) in enumerate(self.beats(inputs, going_on, stir, change)):
            begin = 0
            if at == 0:
                where = [mark for mark, _, _ in marks].index(self.mark)
                begin, marks = marks[where][2], marks[where:]
            for mark, state, many in marks:
                found += list(zip(numbers[begin:many], printed[begin:many]))
                begin = many
                first = at == 0 and mark == self.mark
                found += self.read(mark, state, passed, (change if first else {}, stir if at == 0 else {}))
            found += list(zip(numbers[begin:], printed[begin:]))
        return found

    def read(self, mark, state, passed, raised):
        found = []
        for _, told, stop, wanted, rule in self.readings:
            states = [here for where, here, _ in passed if where == stop]
            if told == mark and states:
                # What is passed is noted ahead of being stirred; other marks may have the stop of this one.
                stir = raised[1] if stop == self.stop else {}
                found.append((self.worth(rule, state, raised[0]), self.worth(wanted, states[0], stir)))
        return found

    def worth(self, wanted, state, raised):
        numbers = [n * (state[name] + raised.get(name, 0) if name else 1) for name, n in wanted.items()]
        return sum(numbers) % self.prime

    def hangs(self, going_on):
        """For each number told along a going-on: how it hangs on the program's holders, and how on those of the rows."""
        key = repr(going_on)
        if key not in self.known:
            inputs = self.runs[0][0]
            base = self.told(inputs, going_on, {}, {})
            mine = [self.told(inputs, going_on, {name: 1}, {}) for name in self.variables]
            theirs = [self.told(inputs, going_on, {}, {name: 1}) for name in self.holders]
            self.known[key] = [
                ([(told[at][1] - base[at][1]) % self.prime for told in mine], [(told[at][0] - base[at][0]) % self.prime for told in theirs])
                for at in range(len(base))
            ]
        return self.known[key]

    def bar_holds(self, stir, bar):
        """Whether tuples (going_on, position, factor) add up to nothing for each holder, and to 1 for the stir."""
        total, due = [0] * len(self.holders), 0
        for going_on, position, factor in bar:
            mine, theirs = self.hangs(going_on)[position]
            assert 0 < factor < self.prime
            total = [(a + factor * b) % self.prime for a, b in zip(total, theirs)]
            due += factor * sum(n * stir.get(name, 0) for name, n in zip(self.variables, mine))
        return not any(total) and due % self.prime == 1


def all_beside(stock, readings=()):
    """One for each true mark and stop of some stock that known runs pass."""
    found = [Beside(stock, mark, stop, readings) for mark, stop in stock.bench.passings.true_seats()]
    return [beside for beside in found if beside.runs]
