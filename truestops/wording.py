"""The words of texts: sums, paths, marks, and what is put together of them. Each is written and read here unchecked or
checked by its form alone; what is read has to be just what is written of it again, so callers compare."""

from truestops.forms import is_count, is_name
from truestops.naming import is_holder, is_row_holder
from truestops.parsing import read_count, read_sum
from truestops.writing import sum_words


def is_written_sum(value):
    """Whether any object leads holders to counts, and "" to one of at least 1."""
    if type(value) is not dict or not all([is_count(count) for count in value.values()]):
        return False
    return all([value[key] >= 1 if key == "" else is_holder(key) for key in value])


def are_labels(value):
    return type(value) is tuple and all([is_name(label) for label in value])


def is_mark_form(value):
    return type(value) is tuple and len(value) == 2 and is_name(value[0]) and are_labels(value[1])


def is_row_state(value):
    """Whether any object leads holders of rows to counts."""
    if type(value) is not dict or not all([is_row_holder(holder) for holder in value]):
        return False
    return all([is_count(count) for count in value.values()])


def is_row_sum(value):
    """Whether any object is a sum of holders of rows, so without factors 0."""
    if not is_written_sum(value):
        return False
    return all([value[key] > 0 and (key == "" or is_row_holder(key)) for key in value])


def is_row_rule(value):
    """Whether any object leads holders of rows to sums of such."""
    if type(value) is not dict or not all([is_row_holder(holder) for holder in value]):
        return False
    return all([is_row_sum(wanted) for wanted in value.values()])


def path_words(path):
    return ".".join(path) if path else "-"


def mark_words(mark):
    return f"{mark[0]} in {path_words(mark[1])}"


def read_sum_words(text):
    """The sum that has a text, or None."""
    wanted = read_sum(text)
    if wanted is None or not is_written_sum(wanted) or sum_words(wanted) != text:
        return None
    return {key: wanted[key] for key in sorted(wanted)}


def read_path_words(text):
    path = () if text == "-" else tuple(text.split("."))
    return path if are_labels(path) else None


def read_mark_words(text):
    name, parting, words = text.partition(" in ")
    path = read_path_words(words)
    return (name, path) if parting and is_name(name) and path is not None else None


def listed_words(words):
    """Words of holders with what stands behind each, put apart."""
    return "; ".join(words) if words else "-"


def read_listed(text, read_one):
    """The dictionary in a text of holders, in order, with what stands behind each as `read_one` reads it; or None."""
    found = {}
    for words in [] if text == "-" else text.split("; "):
        holder, _, behind = words.partition(" = ")
        told = read_one(behind)
        if told is None or not is_row_holder(holder) or holder in found:
            return None
        found[holder] = told
    return found


def rule_words(rule):
    return listed_words([f"{holder} = {sum_words(rule[holder])}" for holder in sorted(rule)])


def state_words(state):
    return listed_words([f"{holder} = {state[holder]}" for holder in sorted(state)])


def read_rule_words(text):
    rule = read_listed(text, read_sum_words)
    return rule if rule is not None and is_row_rule(rule) and rule_words(rule) == text else None


def read_state_words(text):
    state = read_listed(text, read_count)
    return state if state is not None and state_words(state) == text else None
