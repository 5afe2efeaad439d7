"""The text of a program, line by line."""

STEP = "  "


def sum_words(wanted):
    words = [f"{wanted[name]} {name}" for name in sorted(wanted) if name]
    if "" in wanted:
        words.append(str(wanted[""]))
    return " + ".join(words) if words else "0"


def names_words(names):
    return "(" + ", ".join(names) + ")"


def sums_words(sums):
    return "(" + "; ".join([sum_words(wanted) for wanted in sums]) + ")"


def statement_words(statement):
    """The line of a statement, without its blocks and without the blanks ahead."""
    word, label = statement[0], statement[1]
    if word == "read":
        return f"{label}: read {statement[2]}"
    if word == "set":
        return f"{label}: set {statement[2]} = {sum_words(statement[3])}"
    if word == "print":
        return f"{label}: print {sum_words(statement[2])}"
    if word == "call":
        return f"{label}: call {statement[2]} {sums_words(statement[3])} {names_words(statement[4])}"
    return f"{label}: {word}"


def procedure_words(name, parameters, results):
    return f"procedure {name} {names_words(parameters)} {names_words(results)}"


def shared_words(shared):
    return f"shared {names_words(shared)}"


def own_words(own):
    return f"own {names_words(own)}"


def block_lines(block, lead):
    own, statements = block
    lines = [lead + own_words(own)] if own else []
    for statement in statements:
        lines.append(lead + statement_words(statement))
        if statement[0] == "again":
            lines.extend(block_lines(statement[2], lead + STEP))
        elif statement[0] == "pick":
            for arm in statement[2]:
                lines.append(f"{lead}{STEP}arm")
                lines.extend(block_lines(arm, lead + STEP + STEP))
    return lines


def program_lines(prime, shared, procedures, body):
    lines = [f"prime {prime}", shared_words(shared)]
    for name, parameters, results, block in procedures:
        lines.append(procedure_words(name, parameters, results))
        lines.extend(block_lines(block, STEP))
    lines.append("main")
    lines.extend(block_lines(body, STEP))
    return lines
