"""Texts of sums, paths, marks, rows, rules of exchange, dumps and lines of books, there and back."""

from truestops.benches import require_ordered
from truestops.books import Book, require_book
from truestops.errors import (
    InvalidDump,
    InvalidLines,
    InvalidRule,
    InvalidSum,
    InvalidText,
    UnknownMark,
    UnknownStop,
)
from truestops.rows import require_rows
from truestops.rowtexts import read_rows_text, rows_lines
from truestops.wording import (
    are_labels,
    is_mark_form,
    is_row_rule,
    is_row_state,
    is_written_sum,
    mark_words,
    path_words,
    read_mark_words,
    read_path_words,
    read_rule_words,
    read_state_words,
    read_sum_words,
    rule_words,
    state_words,
)
from truestops.writing import sum_words

# What stands between the two sums of a line of a book.
BETWEEN = {"read": "=", "change": "by"}


def require_text(text):
    if type(text) is not str:
        raise InvalidText(text)


def sum_text(wanted):
    if not is_written_sum(wanted):
        raise InvalidSum(wanted)
    return sum_words(wanted)


def read_sum(text):
    require_text(text)
    wanted = read_sum_words(text)
    if wanted is None:
        raise InvalidText(text)
    return wanted


def path_text(path):
    if not are_labels(path):
        raise UnknownStop(path)
    return path_words(path)


def read_path(text):
    require_text(text)
    path = read_path_words(text)
    if path is None:
        raise InvalidText(text)
    return path


def mark_text(mark):
    if not is_mark_form(mark):
        raise UnknownMark(mark)
    return mark_words(mark)


def read_mark(text):
    require_text(text)
    mark = read_mark_words(text)
    if mark is None:
        raise InvalidText(text)
    return mark


def rows_text(rows):
    require_rows(rows)
    return "\n".join(rows_lines(rows))


def read_rows(text):
    require_text(text)
    rows = read_rows_text(text)
    if rows is None:
        raise InvalidText(text)
    return rows


def exchange_text(rule):
    if not is_row_rule(rule):
        raise InvalidRule(rule)
    return rule_words(rule)


def read_exchange(text):
    require_text(text)
    rule = read_rule_words(text)
    if rule is None:
        raise InvalidText(text)
    return rule


def is_dump_form(value):
    return type(value) is tuple and len(value) == 2 and is_mark_form(value[0]) and is_row_state(value[1])


def dump_text(dump):
    if not is_dump_form(dump):
        raise InvalidDump(dump)
    return f"{mark_words(dump[0])}: {state_words(dump[1])}"


def read_dump(text):
    require_text(text)
    words, _, behind = text.partition(": ")
    mark, state = read_mark_words(words), read_state_words(behind)
    if mark is None or state is None:
        raise InvalidText(text)
    return (mark, state)


def line_words(line):
    word, mark, stop, first, second = line
    return f"{word} {mark_words(mark)} at {path_words(stop)}: {sum_words(first)} {BETWEEN[word]} {sum_words(second)}"


def lines_text(book):
    require_book(book)
    return "\n".join([line_words(line) for line in book.lines()])


def read_two_sums(text, parting):
    """The two sums in a text, put apart by a word, or None. The word may be the name of a variable, too."""
    words = text.split(" ")
    for at, word in enumerate(words):
        if word == parting:
            first, second = read_sum_words(" ".join(words[:at])), read_sum_words(" ".join(words[at + 1:]))
            if first is not None and second is not None:
                return (first, second)
    return None


def read_line(text):
    """The line that has a text, by its form, or None. Labels and marks may be called as the words between them."""
    head, _, behind = text.partition(": ")
    words = head.split(" ")
    if len(words) != 6 or words[0] not in BETWEEN or words[4] != "at":
        return None
    mark, stop = read_mark_words(" ".join(words[1:4])), read_path_words(words[5])
    sums = read_two_sums(behind, BETWEEN[words[0]])
    return None if mark is None or stop is None or sums is None else (words[0], mark, stop, sums[0], sums[1])


def read_lines(bench, text):
    require_ordered(bench)
    require_text(text)
    lines = [read_line(line) for line in text.split("\n")] if text else []
    try:
        return Book(bench, lines)
    except InvalidLines:
        raise InvalidText(text) from None
