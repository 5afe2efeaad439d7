"""The forms of statements, blocks and procedures, and copies of them."""

from truestops.forms import is_name, is_names

PARTS_BEHIND_LABEL = {"read": 1, "set": 2, "print": 1, "pick": 1, "again": 1, "call": 3, "pass": 0}
FEWEST_ARMS = 2
MOST_ARMS = 4


def is_sum_of_names(prime, value):
    if type(value) is not dict:
        return False
    for key, factor in value.items():
        if type(factor) is not int or not 0 < factor < prime or not (key == "" or is_name(key)):
            return False
    return True


def are_sums_of_names(prime, value):
    return type(value) is list and all([is_sum_of_names(prime, wanted) for wanted in value])


def are_arms(prime, value):
    if type(value) is not list or not FEWEST_ARMS <= len(value) <= MOST_ARMS:
        return False
    return all([is_block(prime, arm) for arm in value])


def are_parts(prime, word, parts):
    """Whether these stand behind the label of a statement with this word; they are as many as it has."""
    if word == "read":
        return is_name(parts[0])
    if word == "set":
        return is_name(parts[0]) and is_sum_of_names(prime, parts[1])
    if word == "print":
        return is_sum_of_names(prime, parts[0])
    if word == "pick":
        return are_arms(prime, parts[0])
    if word == "again":
        return is_block(prime, parts[0])
    if word == "call":
        return is_name(parts[0]) and are_sums_of_names(prime, parts[1]) and is_names(parts[2])
    return True


def is_statement(prime, value):
    if type(value) is not tuple or len(value) < 2:
        return False
    word, label = value[0], value[1]
    if type(word) is not str or word not in PARTS_BEHIND_LABEL or not is_name(label):
        return False
    parts = value[2:]
    return len(parts) == PARTS_BEHIND_LABEL[word] and are_parts(prime, word, parts)


def is_block(prime, value):
    if type(value) is not tuple or len(value) != 2:
        return False
    own, statements = value
    if not is_names(own) or type(statements) is not list:
        return False
    # Blocks and their copies go by plain loops: a text may nest them as deep as its lines are long.
    for statement in statements:
        if not is_statement(prime, statement):
            return False
    return True


def is_procedure(prime, value):
    if type(value) is not tuple or len(value) != 4:
        return False
    name, parameters, results, block = value
    return is_name(name) and is_names(parameters) and is_names(results) and is_block(prime, block)


def are_procedures(prime, value):
    return type(value) is list and all([is_procedure(prime, procedure) for procedure in value])


def ascending(wanted):
    """A copy of a dictionary with its keys in ascending order."""
    return {key: wanted[key] for key in sorted(wanted)}


def copy_statement(statement):
    word, label = statement[0], statement[1]
    if word == "set":
        return (word, label, statement[2], ascending(statement[3]))
    if word == "print":
        return (word, label, ascending(statement[2]))
    if word == "pick":
        return (word, label, [copy_block(arm) for arm in statement[2]])
    if word == "again":
        return (word, label, copy_block(statement[2]))
    if word == "call":
        return (word, label, statement[2], [ascending(wanted) for wanted in statement[3]], list(statement[4]))
    return statement


def copy_block(block):
    own, statements = block
    copies = []
    for statement in statements:
        copies.append(copy_statement(statement))
    return (list(own), copies)


def copy_procedure(procedure):
    name, parameters, results, block = procedure
    return (name, list(parameters), list(results), copy_block(block))


def copy_procedures(procedures):
    return [copy_procedure(procedure) for procedure in procedures]


def blocks_of(statement):
    """The blocks that a statement has in the text."""
    if statement[0] == "pick":
        return statement[2]
    if statement[0] == "again":
        return [statement[2]]
    return []


def sums_of(statement):
    """The sums that a statement reckons, in the order of its text."""
    if statement[0] == "set":
        return [statement[3]]
    if statement[0] == "print":
        return [statement[2]]
    if statement[0] == "call":
        return statement[3]
    return []


def changed_by(statement):
    """The variables that a statement changes, in the order of its text."""
    if statement[0] in ("read", "set"):
        return [statement[2]]
    if statement[0] == "call":
        return statement[4]
    return []
