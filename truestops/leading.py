"""Where calls lead to."""


def led_to(leads, name):
    """A dictionary of True for each name to which calls lead from one, its own one, too.

    `leads` is a dictionary from names to the lists of those that are called there; others call nothing.
    """
    found = {name: True}
    waiting = [name]
    while waiting:
        caller = waiting.pop()
        for called in leads.get(caller, []):
            if called not in found:
                found[called] = True
                waiting.append(called)
    return found
