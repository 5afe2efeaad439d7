"""A second reckoning of what programs do, straight by their statements, and programs made by chance."""

import random


class Deeds:
    """Carries out a program's statements one by one. `asked` and `beats` tell what it came to."""

    def __init__(self, prime, shared, procedures, body):
        self.prime = prime
        self.procedures = {procedure[0]: procedure[1:] for procedure in procedures}
        self.globals = {name: name for name in shared}
        self.numbers = {name: 0 for name in shared}
        self.beats = [[]]
        self.passed = []
        self.body = body
        # Where it is stirred: what is passed, in which beat, and the stir; one such tuple, or a list of them.
        self.stirred = None
        # What is passed, with the state behind being stirred.
        self.left = []

    def worth(self, wanted, sight):
        numbers = [n * (self.numbers[sight[name]] if name else 1) for name, n in wanted.items()]
        return sum(numbers) % self.prime

    def note(self, stop):
        self.passed.append((stop, dict(sorted(self.numbers.items())), len(self.beats[-1])))
        for stir in stirs_at(self.stirred, stop, len(self.beats) - 1):
            for holder, amount in stir.items():
                self.numbers[holder] = (self.numbers[holder] + amount) % self.prime
        self.left.append((stop, dict(sorted(self.numbers.items()))))

    def do_block(self, block, sight, path):
        own, statements = block
        fresh = {name: ".".join(path + (name,)) for name in own}
        self.numbers.update({holder: 0 for holder in fresh.values()})
        for statement in statements:
            self.note(path + (statement[1],))
            yield from self.do(statement, {**sight, **fresh}, path)
        for holder in fresh.values():
            del self.numbers[holder]

    def do(self, statement, sight, path):
        word, label, *parts = statement
        if word == "read":
            self.numbers[sight[parts[0]]] = yield ("number",)
        elif word == "set":
            self.numbers[sight[parts[0]]] = self.worth(parts[1], sight)
        elif word == "print":
            self.beats[-1].append(self.worth(parts[0], sight))
        elif word == "pick":
            choice = yield ("choice", len(parts[0]))
            yield from self.do_block(parts[0][choice], sight, path)
        elif word == "again":
            while (yield ("choice", 2)):
                yield from self.do_block(parts[0], sight, path)
                self.note(path + (label,))
        elif word == "call":
            yield from self.do_call(label, parts, sight, path)

    def do_call(self, label, parts, sight, path):
        name, sums, variables = parts
        parameters, results, block = self.procedures[name]
        within = path + (label,)
        numbers = [self.worth(wanted, sight) for wanted in sums]
        fresh = {own: ".".join(within + (own,)) for own in parameters + results}
        self.numbers.update({holder: 0 for holder in fresh.values()})
        self.numbers.update({fresh[own]: number for own, number in zip(parameters, numbers)})
        yield from self.do_block(block, {**self.globals, **fresh}, within)
        told = [self.numbers[fresh[own]] for own in results]
        for holder in fresh.values():
            del self.numbers[holder]
        self.numbers.update({sight[variable]: number for variable, number in zip(variables, told)})


def stirs_at(stirred, where, beat):
    told = stirred if isinstance(stirred, list) else [stirred] if stirred else []
    return [stir for place, at, stir in told if (place, at) == (where, beat)]


def carried_out(parts, inputs):
    """The beats, the asking and the stops passed in the last beat; None instead if a letter does not fit."""
    found = deeds_of(parts, inputs)
    return None if found is None else (found[0].beats, found[1], found[0].passed)


def deeds_of(parts, inputs, stirred=None):
    """The deeds behind a run, perhaps stirred, and what is asked for; None instead if a letter does not fit."""
    deeds = Deeds(*parts)
    deeds.stirred = stirred
    run = deeds.do_block(deeds.body, deeds.globals, ())
    asked = next(run, ("end",))
    for word, number in inputs:
        if asked == ("number",):
            fits = word == "number" and number < deeds.prime
        else:
            fits = asked[0] == "choice" and word == "choice" and number < asked[1]
        if not fits:
            return None
        deeds.beats.append([])
        deeds.passed = []
        deeds.left = []
        try:
            asked = run.send(number)
        except StopIteration:
            asked = ("end",)
    return deeds, asked


def by_points(prime, points, inputs):
    """The beats, the asking and the ways of the beats of a run that knows the points alone."""
    place, numbers, beats, ways, letters = 0, {}, [[]], [[]], list(inputs)
    while True:
        word, *parts = points[place]
        ways[-1].append(place)
        if word == "end" or (word in ("read", "pick") and not letters):
            asked = {"end": ("end",), "read": ("number",), "pick": ("choice", len(parts[0]) if parts else 0)}[word]
            return beats, asked, ways
        place = parts[-1]
        if word == "live":
            numbers.update({holder: 0 for holder in parts[0]})
        elif word == "gone":
            for holder in parts[0]:
                del numbers[holder]
        elif word == "set":
            numbers[parts[0]] = sum(n * (numbers[name] if name else 1) for name, n in parts[1].items()) % prime
        elif word == "print":
            beats[-1].append(sum(n * (numbers[name] if name else 1) for name, n in parts[0].items()) % prime)
        elif word == "read":
            numbers[parts[0]] = letters.pop(0)[1]
        elif word == "pick":
            place = parts[0][letters.pop(0)[1]]
        if word in ("read", "pick"):
            beats.append([])
            ways.append([])


class Chance:
    """Makes programs without faults but those of size, the same ones for each seed."""

    def __init__(self, seed):
        self.random = random.Random(seed)
        self.prime = self.random.choice([2, 3, 5, 65537])
        self.labels = iter([a + b for a in "abcdefghij" for b in "klmnopqrst"])
        self.names = iter(["v" + a + b for a in "abcdefghij" for b in "klmnopqrst"])
        self.known = []

    def a_sum(self, sight):
        names = self.random.sample(sight + [""], min(len(sight) + 1, self.random.randint(0, 3)))
        return {name: self.random.randint(1, self.prime - 1) for name in names}

    def block(self, sight, deep):
        own = [next(self.names)] if self.random.random() < 0.4 else []
        many = self.random.randint(0, 3)
        return (own, [self.statement(sight + own, deep) for _ in range(many)])

    def statement(self, sight, deep):
        label = next(self.labels)
        words = ["pass", "print", "pick", "again", "call"] + (["read", "set"] * 2 if sight else [])
        word = self.random.choice(words if deep else ["pass", "print"])
        if word == "read":
            return (word, label, self.random.choice(sight))
        if word == "set":
            return (word, label, self.random.choice(sight), self.a_sum(sight))
        if word == "print":
            return (word, label, self.a_sum(sight))
        if word == "pick":
            return (word, label, [self.block(sight, deep - 1) for _ in range(self.random.randint(2, 3))])
        if word == "again":
            return (word, label, self.block(sight, deep - 1))
        if word == "call" and self.known:
            name, parameters, results = self.random.choice(self.known)
            if sight or not results:
                variables = [self.random.choice(sight) for _ in results]
                return (word, label, name, [self.a_sum(sight) for _ in parameters], variables)
        return ("pass", label)

    def program(self):
        shared = [next(self.names) for _ in range(self.random.randint(0, 2))]
        procedures = []
        for name in ["one", "two"][:self.random.randint(0, 2)]:
            parameters = [next(self.names) for _ in range(self.random.randint(0, 2))]
            results = [next(self.names) for _ in range(self.random.randint(0, 2))]
            procedures.append((name, parameters, results, self.block(shared + parameters + results, 2)))
            self.known.append((name, parameters, results))
        return (self.prime, shared, procedures, self.block(shared, 3))

    def inputs(self, parts, most):
        """Letters that fit, as many as a run takes but at most so many."""
        letters = []
        while len(letters) < most:
            asked = carried_out(parts, letters)[1]
            if asked == ("end",):
                break
            if asked == ("number",):
                letters.append(("number", self.random.randrange(self.prime)))
            else:
                letters.append(("choice", self.random.randrange(asked[1])))
        return letters
