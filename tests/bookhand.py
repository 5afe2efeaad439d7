"""Courses of books by the second reckonings, command by command."""

from tests.machines import letters_for


class ByHand:
    """Walks courses of lines of some stock."""

    def __init__(self, stock, lines):
        self.stock = stock
        self.prime = stock.prime
        self.lines = lines
        self.known = {}

    def run(self, letters, moves):
        """What both tell on letters with moves (at, n, beat)."""
        mine = [(self.lines[at][2], beat, self.times(self.lines[at][3], n)) for at, n, beat in moves]
        theirs = [(self.lines[at][1], beat, self.times(self.lines[at][4], n)) for at, n, beat in moves]
        return self.stock.one.told(letters, mine), self.stock.other.told(letters, theirs)

    def times(self, stir, n):
        return {name: amount * n for name, amount in stir.items()}

    def worth(self, wanted, state):
        return sum(n * (state[name] if name else 1) for name, n in wanted.items()) % self.prime

    def fits(self, letters, moves, command):
        """Whether a command fits behind letters and moves."""
        mine, theirs = self.run(letters, [])
        if command[0] != "move":
            asked = mine.asked
            return command in letters_for(asked, self.prime)
        _, at, n = command
        if not (0 <= at < len(self.lines) and self.lines[at][0] == "change" and 0 <= n < self.prime):
            return False
        _, mark, stop, _, _ = self.lines[at]
        marks, stops = [told[0] for told in theirs.passed], [told[0] for told in mine.passed]
        if mark not in marks or stop not in stops:
            return False
        earlier = [marks.index(self.lines[before][1]) for before, _, beat in moves if beat == len(letters)]
        return all(place <= marks.index(mark) for place in earlier)

    def walk(self, course):
        """What is told, or the position of the first command that does not fit."""
        letters, moves, told = [], [], []
        for position, command in enumerate(course):
            if not self.fits(letters, moves, command):
                return position
            if command[0] == "move":
                moves.append((command[1], command[2], len(letters)))
            else:
                told += self.beat(letters, moves)
                letters = letters + [command]
        return told + self.beat(letters, moves)

    def beat(self, letters, moves):
        """What is told in the beat behind the last letter."""
        mine, theirs = self.run(letters, moves)
        printed = [("printed", a, b) for a, b in zip(theirs.beats[-1], mine.beats[-1])]
        found, begin = [], 0
        marks = [mark for mark, _, _ in theirs.passed]
        for (mark, _, many), (_, state) in zip(theirs.passed, theirs.left):
            found += printed[begin:many]
            begin = many
            # Where marks share a stop, what is moved at a later one is not yet moved at this one.
            by_now = [move for move in moves if move[2] < len(letters) or marks.index(self.lines[move[0]][1]) <= marks.index(mark)]
            states = dict(self.run(letters, by_now)[0].left)
            for at, line in enumerate(self.lines):
                if line[0] == "read" and line[1] == mark and line[2] in states:
                    found.append(("read", at, self.worth(line[4], state), self.worth(line[3], states[line[2]])))
        return found + printed[begin:]

    def courses(self, most):
        """All courses of at most so many commands, shorter ones first; numbers are 0 and 1."""
        level = [([], [], [])]
        for _ in range(most + 1):
            yield from [course for course, _, _ in level]
            level = [self.longer(told, command) for told in level for command in self.commands(told)]

    def commands(self, told):
        _, letters, moves = told
        asked = self.run(letters, [])[0].asked
        found = letters_for(asked, min(self.prime, 2))
        moved = [("move", at, n) for at in range(len(self.lines)) for n in range(1, min(self.prime, 3))]
        return found + [command for command in moved if self.fits(letters, moves, command)]

    def longer(self, told, command):
        course, letters, moves = told
        if command[0] == "move":
            return (course + [command], letters, moves + [(command[1], command[2], len(letters))])
        return (course + [command], letters + [command], moves)

    def lies(self, course):
        return any(told[-1] != told[-2] for told in self.walk(course))
