"""Scripts: lists of commands for sessions, played, trimmed, and as texts."""

from truestops.benches import Bench
from truestops.errors import InvalidBench, InvalidCount, InvalidScript, InvalidSession, InvalidText, StopError
from truestops.forms import is_count
from truestops.parsing import read_count
from truestops.sessions import Session, require_runnable
from truestops.wording import is_mark_form, is_written_sum, mark_words, read_mark_words, read_sum_words
from truestops.writing import sum_words

LEAD = "  "
BARE = ("go", "undo", "redo", "here", "beats", "would")
LETTERS = ("number", "choice")
WITH_SUMS = ("read", "move", "suppose", "put")


def is_command(value):
    if type(value) is not tuple or not value or type(value[0]) is not str:
        return False
    word, parts = value[0], value[1:]
    if word in BARE:
        return parts == ()
    if word == "exchange":
        return len(parts) == 2 and is_count(parts[0]) and is_mark_form(parts[1])
    if len(parts) != 1:
        return False
    if word in LETTERS:
        return is_count(parts[0])
    if word in WITH_SUMS:
        return is_written_sum(parts[0])
    return word == "try" and is_script(parts[0])


def is_script(value):
    return type(value) is list and all([is_command(command) for command in value])


def require_script(script):
    if not is_script(script):
        raise InvalidScript(script)


def are_benches(value):
    return type(value) is list and all([isinstance(bench, Bench) for bench in value])


def bench_at(benches, at):
    if at >= len(benches):
        raise InvalidCount(at)
    return benches[at]


def call(session, benches, command):
    """Makes a command of a session, and returns what is said of it."""
    word = command[0]
    if word == "go":
        return ("here", session.go())
    if word == "here":
        return ("here", session.here())
    if word == "read":
        return ("read", session.read(command[1]))
    if word == "beats":
        return ("beats", session.beats())
    if word == "would":
        return ("would", session.would())
    if word in LETTERS:
        session.answer(command)
    elif word == "move":
        session.move(command[1])
    elif word == "suppose":
        session.suppose(command[1])
    elif word == "put":
        session.put(command[1])
    elif word == "exchange":
        session.exchange(bench_at(benches, command[1]), command[2])
    elif word == "undo":
        session.undo()
    else:
        session.redo()
    return ("done",)


def said_of(session, benches, command):
    if command[0] == "try":
        with session.trial():
            return ("tried", played(session, benches, command[1]))
    try:
        return call(session, benches, command)
    except StopError as error:
        return ("refused", type(error).__name__)


def played(session, benches, script):
    return [said_of(session, benches, command) for command in script]


def play(session, benches, script):
    if not isinstance(session, Session):
        raise InvalidSession(session)
    if not are_benches(benches):
        raise InvalidBench(benches)
    require_script(script)
    return played(session, benches, script)


def command_lines(command, lead):
    word = command[0]
    if word == "try":
        return [f"{lead}try"] + script_lines(command[1], lead + LEAD) + [f"{lead}end"]
    if word in LETTERS:
        return [f"{lead}{word} {command[1]}"]
    if word in WITH_SUMS:
        return [f"{lead}{word} {sum_words(command[1])}"]
    if word == "exchange":
        return [f"{lead}{word} {command[1]} {mark_words(command[2])}"]
    return [lead + word]


def script_lines(script, lead):
    lines = []
    for command in script:
        lines.extend(command_lines(command, lead))
    return lines


def script_text(script):
    require_script(script)
    return "\n".join(script_lines(script, ""))


def read_command(line):
    """The command, but a try, that a line may be that of, or None."""
    word, _, behind = line.partition(" ")
    if word in LETTERS:
        return (word, read_count(behind))
    if word in WITH_SUMS:
        return (word, read_sum_words(behind))
    if word == "exchange":
        at, _, mark = behind.partition(" ")
        return (word, read_count(at), read_mark_words(mark))
    return (word,)


def read_script_lines(lines):
    """The script that lines may be those of, or None. How far they stand in is for others to say."""
    script = []
    around = []
    for line in lines:
        words = line.lstrip(" ")
        if words == "try":
            around.append(script)
            script = []
        elif words == "end":
            if not around:
                return None
            inner = script
            script = around.pop()
            script.append(("try", inner))
        else:
            script.append(read_command(words))
    return None if around else script


def read_script(text):
    if type(text) is not str:
        raise InvalidText(text)
    script = read_script_lines(text.split("\n")) if text else []
    # Written again it shows whatever the reading passed over: blanks, noughts, the order of a sum.
    if script is None or not is_script(script) or "\n".join(script_lines(script, "")) != text:
        raise InvalidText(text)
    return script


def end_by(bench, benches, script):
    session = Session(bench)
    played(session, benches, script)
    return (session.here(), session.beats(), session.would())


def require_end(bench, benches, script):
    require_runnable(bench)
    if not are_benches(benches):
        raise InvalidBench(benches)
    require_script(script)


def end_of(bench, benches, script):
    require_end(bench, benches, script)
    return end_by(bench, benches, script)


def copy_command(command):
    # A try changes no end, so none is ever left.
    if command[0] in WITH_SUMS:
        return (command[0], {key: command[1][key] for key in sorted(command[1])})
    return command


def trimmed(bench, benches, script):
    require_end(bench, benches, script)
    aim = end_by(bench, benches, script)
    left = [copy_command(command) for command in script]
    for at in reversed(range(len(left))):
        fewer = left[:at] + left[at + 1:]
        if end_by(bench, benches, fewer) == aim:
            left = fewer
    return left
