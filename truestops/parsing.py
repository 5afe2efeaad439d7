"""Reads the text of a program. Each line has to be just what writing makes of what is read from it."""

from truestops.errors import Fault
from truestops.forms import is_name, is_names, is_prime
from truestops.statements import FEWEST_ARMS, MOST_ARMS, is_statement
from truestops.writing import STEP, own_words, procedure_words, shared_words, statement_words

DIGITS = "0123456789"
MOST_DIGITS = 400


def read_count(text):
    """The count that a text of decimal digits tells without needless noughts, or None."""
    if not text or len(text) > MOST_DIGITS or not all([sign in DIGITS for sign in text]):
        return None
    if text[0] == "0" and text != "0":
        return None
    return int(text)


def read_names(text):
    """The names between two brackets, or None. Whether they are names is for others to say."""
    if text[:1] != "(" or text[-1:] != ")":
        return None
    inner = text[1:-1]
    return inner.split(", ") if inner else []


def read_sum(text):
    """The sum that a text may be that of, or None. Order, doubles and bounds are for others to say."""
    if text == "0":
        return {}
    wanted = {}
    for words in text.split(" + "):
        count, _, name = words.partition(" ")
        factor = read_count(count)
        if factor is None:
            return None
        wanted[name] = factor
    return wanted


def read_sums(text):
    return [read_sum(words) for words in text.split("; ")] if text else []


def read_call(label, text):
    """The call behind its word: NAME (SUMS) (VARIABLES)."""
    name, _, behind = text.partition(" (")
    sums, _, names = behind.partition(") ")
    return ("call", label, name, read_sums(sums), read_names(names))


def read_statement(prime, text):
    """The statement that has a line, its blocks left out of it, or None."""
    label, _, words = text.partition(": ")
    word, _, behind = words.partition(" ")
    statement = (word, label)
    if word == "read":
        statement = (word, label, behind)
    elif word == "set":
        variable, _, wanted = behind.partition(" = ")
        statement = (word, label, variable, read_sum(wanted))
    elif word == "print":
        statement = (word, label, read_sum(behind))
    elif word == "call":
        statement = read_call(label, behind)
    elif word in ("pick", "again"):
        return statement if is_name(label) and statement_words(statement) == text else None
    # Written again it shows whatever the reading passed over: noughts, doubles, blanks, the order of a sum.
    if is_statement(prime, statement) and statement_words(statement) == text:
        return statement
    return None


def read_procedure(line):
    """The name, parameters and results in the line of a procedure, or None."""
    name, _, behind = line.partition(" ")[2].partition(" (")
    first, _, second = behind.partition(") ")
    parameters, results = read_names(f"({first})"), read_names(second)
    if not is_name(name) or not is_names(parameters) or not is_names(results):
        return None
    return (name, parameters, results) if procedure_words(name, parameters, results) == line else None


class Reader:
    """Stands at a line of a program's text and reads on, part by part.

    `spots` are the numbers of the lines of shared, procedures, statements and main that were read, in their order.
    """

    def __init__(self, text):
        self.spots = []
        self._lines = text.split("\n")
        self._at = 0
        self._prime = None

    def line(self):
        """The line that comes. Behind the last one it is one that can stand nowhere."""
        return self._lines[self._at] if self._at < len(self._lines) else "."

    def refuse(self, word):
        raise Fault((self._at + 1, word))

    def _take_spot(self):
        self._at += 1
        self.spots.append(self._at)

    def read_prime(self):
        word, _, digits = self.line().partition(" ")
        prime = read_count(digits)
        if word != "prime" or prime is None:
            self.refuse("text")
        if not is_prime(prime):
            self.refuse("prime")
        self._prime = prime
        self._at += 1
        return prime

    def read_shared(self):
        names = read_names(self.line().partition(" ")[2])
        if not is_names(names) or shared_words(names) != self.line():
            self.refuse("text")
        self._take_spot()
        return names

    def read_procedures(self):
        found = []
        while self.line().startswith("procedure "):
            head = read_procedure(self.line())
            if head is None:
                self.refuse("text")
            self._take_spot()
            found.append(head + (self._read_block(STEP),))
        return found

    def read_main(self):
        if self.line() != "main":
            self.refuse("text")
        self._take_spot()
        body = self._read_block(STEP)
        if self._at < len(self._lines):
            self.refuse("text")
        return body

    def _read_block(self, lead):
        own = []
        if self.line().startswith(lead + "own "):
            own = self._read_own(lead)
        statements = []
        # A line further in that no statement took, or one further out, is for the blocks around.
        while self.line().startswith(lead) and not self.line().startswith(lead + " "):
            statements.append(self._read_statement(lead))
        return (own, statements)

    def _read_own(self, lead):
        words = self.line()[len(lead):]
        names = read_names(words.partition(" ")[2])
        if not names or not is_names(names) or own_words(names) != words:
            self.refuse("text")
        self._at += 1
        return names

    def _read_statement(self, lead):
        statement = read_statement(self._prime, self.line()[len(lead):])
        if statement is None:
            self.refuse("text")
        self._take_spot()
        if statement[0] == "again":
            return statement + (self._read_block(lead + STEP),)
        if statement[0] == "pick":
            return statement + (self._read_arms(lead + STEP),)
        return statement

    def _read_arms(self, lead):
        arms = []
        while len(arms) < MOST_ARMS and self.line() == lead + "arm":
            self._at += 1
            arms.append(self._read_block(lead + STEP))
        if len(arms) < FEWEST_ARMS:
            self.refuse("text")
        return arms


def read_parts(text):
    """The prime, the shared variables, the procedures and the body in a text, and the lines of its spots."""
    reader = Reader(text)
    prime = reader.read_prime()
    shared = reader.read_shared()
    procedures = reader.read_procedures()
    body = reader.read_main()
    return (prime, shared, procedures, body, reader.spots)
