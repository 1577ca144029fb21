"""The definitions of the document, word by word and slowly, to compare the program with."""

from itertools import product


def parent(plan, section):
    found = None
    for before in range(section):
        if plan[before][0] == plan[section][0] - 1:
            found = before
    return found


def group(plan, section):
    return [inner for inner in range(len(plan)) if parent(plan, inner) == section]


def around(plan, section):
    outer = parent(plan, section)
    return [] if outer is None else around(plan, outer) + [outer]


def is_state(plan, value):
    for section, setting in enumerate(value):
        beside = group(plan, section)
        if setting == 0:
            if beside and plan[section][1] != "one":
                return False
        elif setting not in beside:
            return False
    return len(value) == len(plan)


def states(plan):
    """All states in list order: those among all lists of section numbers."""
    if len(plan) <= 4:
        rows = product(range(len(plan)), repeat=len(plan))
        return [list(row) for row in rows if is_state(plan, list(row))]
    choices = [[0] + group(plan, section) for section in range(len(plan))]
    return sorted(list(row) for row in product(*choices) if is_state(plan, list(row)))


def is_open(plan, state, section):
    return section == 0 or state[parent(plan, section)] == section


def is_shown(plan, state, section):
    return all(is_open(plan, state, outer) for outer in around(plan, section) + [section])


def is_visible(plan, state, section):
    if section == 0:
        return False
    outer = parent(plan, section)
    if not is_shown(plan, state, outer):
        return False
    beside = group(plan, outer)
    far = abs(beside.index(section) - beside.index(state[outer])) if plan[outer][1] == "step" else 0
    return far <= 1


def after_click(plan, state, section):
    outer = parent(plan, section)
    after = list(state)
    if not is_open(plan, state, section):
        after[outer] = section
    elif plan[outer][1] == "one":
        after[outer] = 0
    return after


def run(plan, state, clicks):
    """The states, and the index of the first hidden header or None."""
    rows = [list(state)]
    for turn, section in enumerate(clicks):
        if not is_visible(plan, rows[-1], section):
            return rows, turn
        rows.append(after_click(plan, rows[-1], section))
    return rows, None
