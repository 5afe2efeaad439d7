"""The errors of the package. Each one derives straight from StopError and holds what it is raised for."""


class StopError(ValueError):
    """What all errors of the package have in common."""


class InvalidPrime(StopError):
    """An argument that has to be a prime and is none."""

    def __init__(self, value=None):
        self.value = value


class InvalidNumber(StopError):
    """An argument that has to be a number of the prime and is none."""

    def __init__(self, value=None):
        self.value = value


class InvalidSum(StopError):
    """An argument that has to be a sum, a stir or wishes and is none."""

    def __init__(self, value=None):
        self.value = value


class InvalidVectors(StopError):
    """An argument that has to be a vector or a list of vectors and is none."""

    def __init__(self, value=None):
        self.value = value


class InvalidText(StopError):
    """A text that is no text of its kind."""

    def __init__(self, value=None):
        self.value = value


class Fault(StopError):
    """A program that is none, by its text or its parts: a place and a word."""

    def __init__(self, value=None):
        self.value = value


class InvalidProgram(StopError):
    """An argument that has to be a program and is none."""

    def __init__(self, value=None):
        self.value = value


class InvalidRows(StopError):
    """An argument that has to be rows and is none, or parts that make none."""

    def __init__(self, value=None):
        self.value = value


class Unsound(StopError):
    """Rows that are not sound."""

    def __init__(self, value=None):
        self.value = value


class InvalidUnits(StopError):
    """An argument that has to tell units and does not."""

    def __init__(self, value=None):
        self.value = value


class InvalidInputs(StopError):
    """Inputs that are no list, or the position of a letter that does not fit."""

    def __init__(self, value=None):
        self.value = value


class InvalidEngine(StopError):
    """An argument that has to be an engine and is none."""

    def __init__(self, value=None):
        self.value = value


class NotAlike(StopError):
    """Engines that do not print alike for all inputs."""

    def __init__(self, value=None):
        self.value = value


class UnlikePrimes(StopError):
    """An engine with another prime than another one."""

    def __init__(self, value=None):
        self.value = value


class InvalidBench(StopError):
    """An argument that has to be a bench and is none."""

    def __init__(self, value=None):
        self.value = value


class UnknownMark(StopError):
    """An argument that has to be a mark and is none."""

    def __init__(self, value=None):
        self.value = value


class UnknownStop(StopError):
    """An argument that has to be a stop and is none."""

    def __init__(self, value=None):
        self.value = value


class UnknownHolder(StopError):
    """The name of a holder that is not there."""

    def __init__(self, value=None):
        self.value = value


class NeverPassed(StopError):
    """A mark that no run passes."""

    def __init__(self, value=None):
        self.value = value


class Stray(StopError):
    """A mark that is stray."""

    def __init__(self, value=None):
        self.value = value


class Uneven(StopError):
    """A mark that is uneven."""

    def __init__(self, value=None):
        self.value = value


class OutOfOrder(StopError):
    """A bench whose marks are not in order."""

    def __init__(self, value=None):
        self.value = value


class InvalidReadings(StopError):
    """An argument that has to be readings of a bench and is none."""

    def __init__(self, value=None):
        self.value = value


class InvalidLines(StopError):
    """An argument that has to be a line, or a list of lines, of a book and is none."""

    def __init__(self, value=None):
        self.value = value


class InvalidBook(StopError):
    """An argument that has to be a book and is none."""

    def __init__(self, value=None):
        self.value = value


class InvalidRule(StopError):
    """An argument that has to be a rule and is none."""

    def __init__(self, value=None):
        self.value = value


class InvalidChange(StopError):
    """An argument that has to be a change and is none."""

    def __init__(self, value=None):
        self.value = value


class InvalidAmounts(StopError):
    """An argument that has to tell numbers of variables and does not."""

    def __init__(self, value=None):
        self.value = value


class InvalidDump(StopError):
    """An argument that has to be a dump and is none."""

    def __init__(self, value=None):
        self.value = value


class InvalidSession(StopError):
    """An argument that has to be a session and is none."""

    def __init__(self, value=None):
        self.value = value


class InvalidScript(StopError):
    """An argument that has to be a script and is none."""

    def __init__(self, value=None):
        self.value = value


class InvalidLog(StopError):
    """An argument that has to be a log and is none."""

    def __init__(self, value=None):
        self.value = value


class InvalidCount(StopError):
    """An argument that has to be a count, perhaps within bounds, and is none."""

    def __init__(self, value=None):
        self.value = value


class Refused(StopError):
    """A command of a session that cannot be carried out truly."""

    def __init__(self, value=None):
        self.value = value


class InvalidSeat(StopError):
    """An argument that has to be a seat and is none."""

    def __init__(self, value=None):
        self.value = value


class InvalidState(StopError):
    """An argument that has to be a state of a seat and is none."""

    def __init__(self, value=None):
        self.value = value


class InvalidLinks(StopError):
    """An argument that has to be links between two seats and is none."""

    def __init__(self, value=None):
        self.value = value


class NotHere(StopError):
    """A command of a session that stands elsewhere."""

    def __init__(self, value=None):
        self.value = value


class InvalidLetter(StopError):
    """A letter that does not fit."""

    def __init__(self, value=None):
        self.value = value


class Unlike(StopError):
    """A bench of another program."""

    def __init__(self, value=None):
        self.value = value


class NothingToUndo(StopError):
    """No command of the session can be taken back."""


class NothingToRedo(StopError):
    """No command of the session can be made again."""
