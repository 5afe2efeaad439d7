"""The text of rows, line by line, and back."""

from truestops.errors import StopError
from truestops.parsing import read_count
from truestops.rowforms import PARTS_OF_ROWS
from truestops.rows import Rows
from truestops.wording import path_words, read_path_words

LEAD = "  "


def part_words(kind, part):
    """The words of a part of a row."""
    if kind == "ats":
        return [str(at) for at in part]
    if kind == "stops":
        return [path_words(stop) for stop in part]
    return [part] if kind == "name" else [str(part)]


def row_words(row):
    words = [row[0]]
    for kind, part in zip(PARTS_OF_ROWS[row[0]], row[1:]):
        words.extend(part_words(kind, part))
    return " ".join(words)


def rows_lines(rows):
    lines = [f"prime {rows.prime()}", f"boxes {rows.boxes()}"]
    for name, unit in rows.units().items():
        lines.append(f"unit {name} {unit[0]}")
        lines.extend([LEAD + row_words(row) for row in unit[1]])
    return lines


def read_row(words):
    """What may be the row that has these words, or None; whether it is one is for others to say."""
    word, behind = words[0], words[1:]
    if word not in PARTS_OF_ROWS:
        return None
    kinds = PARTS_OF_ROWS[word]
    if kinds == ("ats",):
        return (word, [read_count(at) for at in behind])
    if "stops" in kinds:
        return (word, behind[0], [read_path_words(stop) for stop in behind[1:]]) if behind else None
    # Parts too many or missing show when the row is written again, or is none.
    return (word,) + tuple([part if kind == "name" else read_count(part) for kind, part in zip(kinds, behind)])


def read_head(line, word):
    """The count behind a word that a line begins with, or None."""
    told, _, count = line.partition(" ")
    return read_count(count) if told == word else None


def read_units(lines):
    """The units in lines, or None."""
    units = {}
    name = None
    for line in lines:
        if line.startswith(LEAD):
            row = read_row(line[len(LEAD):].split(" "))
            if name is None or row is None:
                return None
            units[name][1].append(row)
        else:
            words = line.split(" ")
            if len(words) != 3 or words[0] != "unit":
                return None
            name = words[1]
            units[name] = (read_count(words[2]), [])
    return units


def read_rows_text(text):
    """The rows that have a text, or None."""
    lines = text.split("\n")
    if len(lines) < 2:
        return None
    prime, boxes = read_head(lines[0], "prime"), read_head(lines[1], "boxes")
    try:
        rows = Rows(prime, boxes, read_units(lines[2:]))
    except StopError:
        return None
    return rows if "\n".join(rows_lines(rows)) == text else None
