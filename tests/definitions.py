"""The definitions of the document, word by word and slowly, to compare the program with."""

from itertools import product
from math import comb, factorial


def parent(plan, section):
    found = None
    for before in range(section):
        if plan[before][0] == plan[section][0] - 1:
            found = before
    return found


def group(plan, section):
    return [inner for inner in range(len(plan)) if parent(plan, inner) == section]


def around(plan, section):
    outer = parent(plan, section)
    return [] if outer is None else around(plan, outer) + [outer]


def is_state(plan, value):
    for section, setting in enumerate(value):
        beside = group(plan, section)
        if setting == 0:
            if beside and plan[section][1] != "one":
                return False
        elif setting not in beside:
            return False
    return len(value) == len(plan)


def states(plan):
    """All states in list order: those among all lists of section numbers."""
    if len(plan) <= 4:
        rows = product(range(len(plan)), repeat=len(plan))
        return [list(row) for row in rows if is_state(plan, list(row))]
    choices = [[0] + group(plan, section) for section in range(len(plan))]
    return sorted(list(row) for row in product(*choices) if is_state(plan, list(row)))


def is_open(plan, state, section):
    return section == 0 or state[parent(plan, section)] == section


def is_shown(plan, state, section):
    return all(is_open(plan, state, outer) for outer in around(plan, section) + [section])


def is_visible(plan, state, section):
    if section == 0:
        return False
    outer = parent(plan, section)
    if not is_shown(plan, state, outer):
        return False
    beside = group(plan, outer)
    far = abs(beside.index(section) - beside.index(state[outer])) if plan[outer][1] == "step" else 0
    return far <= 1


def after_click(plan, state, section):
    outer = parent(plan, section)
    after = list(state)
    if not is_open(plan, state, section):
        after[outer] = section
    elif plan[outer][1] == "one":
        after[outer] = 0
    return after


def run(plan, state, clicks):
    """The states, and the index of the first hidden header or None."""
    rows = [list(state)]
    for turn, section in enumerate(clicks):
        if not is_visible(plan, rows[-1], section):
            return rows, turn
        rows.append(after_click(plan, rows[-1], section))
    return rows, None


def needs_work(plan, state, goal, section):
    if state[section] != goal[section]:
        return True
    return any(needs_work(plan, state, goal, inner) for inner in group(plan, section))


def working_part(plan, state, goal, section):
    """The sections of the group of this section that need work."""
    return [inner for inner in group(plan, section) if needs_work(plan, state, goal, inner)]


def walk(plan, state, goal, section):
    a, b = state[section], goal[section]
    work = working_part(plan, state, goal, section)
    beside = group(plan, section)
    if not beside:
        return 0
    if plan[section][1] != "step":
        if a == b and not [inner for inner in work if inner != a]:
            return 0
        return len([inner for inner in work if inner not in (a, b)]) + 1
    p, q = beside.index(a), beside.index(b)
    places = [p, q] + [beside.index(inner) for inner in work]
    low, high = min(places), max(places)
    return (high - low) + min((p - low) + (high - q), (q - low) + (high - p))


def inside(plan, section):
    """All sections within this one."""
    return [other for other in range(len(plan)) if section in around(plan, other)]


def clicks_within(plan, state, goal, section):
    """The sum of the walks of the group of a section and of all groups within it."""
    return sum(walk(plan, state, goal, other) for other in [section] + inside(plan, section))


def distance(plan, state, goal):
    return sum(walk(plan, state, goal, section) for section in range(len(plan)))


def ways_of_length(start, length, size):
    """All ways from place to place with so many steps in a group of this size."""
    ways = [[start]]
    for _ in range(length):
        ways = [way + [place] for way in ways for place in (way[-1] - 1, way[-1] + 1) if 0 <= place < size]
    return ways


def value_of_way(way, amounts):
    """The product of binomial coefficients for a dict of places and the clicks within them."""
    value = 1
    for place, clicks in amounts.items():
        value *= comb(clicks + way.count(place) - 1, clicks)
    return value


def factor(plan, state, goal, section):
    """The factor of a group in the number of shortest click lists."""
    a, b = state[section], goal[section]
    work = working_part(plan, state, goal, section)
    beside = group(plan, section)
    if not beside:
        return 1
    if plan[section][1] != "step":
        many = factorial(len([inner for inner in work if inner not in (a, b)]))
        if a == b and a in work and len(work) > 1:
            many *= clicks_within(plan, state, goal, a) + 1
        return many
    amounts = {beside.index(inner): clicks_within(plan, state, goal, inner) for inner in work}
    ways = ways_of_length(beside.index(a), walk(plan, state, goal, section), len(beside))
    ways = [way for way in ways if way[-1] == beside.index(b) and set(amounts) <= set(way)]
    return sum(value_of_way(way, amounts) for way in ways)


def wanted_part(plan, sections, section):
    """The sections of the group of this section that are wanted or have a wanted one within them."""
    return [inner for inner in group(plan, section)
            if any(inner == wanted or inner in around(plan, wanted) for wanted in sections)]


def tour_length(plan, state, sections):
    total = 0
    for section in range(len(plan)):
        wanted = wanted_part(plan, sections, section)
        beside = group(plan, section)
        if wanted and plan[section][1] != "step":
            total += len([inner for inner in wanted if inner != state[section]])
        elif wanted:
            p = beside.index(state[section])
            places = [p] + [beside.index(inner) for inner in wanted]
            low, high = min(places), max(places)
            total += (high - low) + min(p - low, high - p)
    return total


def settings(plan, section):
    """The settings that the group of a section, which is not empty, may have."""
    return ([0] if plan[section][1] == "one" else []) + group(plan, section)


def setting_through(plan, section, before, clicks):
    """The setting of a group after clicks, None if one of them finds it in the wrong place."""
    beside = group(plan, section)
    now = before
    for click in clicks:
        if click in beside:
            if plan[section][1] == "step" and abs(beside.index(click) - beside.index(now)) > 1:
                return None
            now = 0 if plan[section][1] == "one" and now == click else click
        elif any(click in inside(plan, inner) and now != inner for inner in beside):
            return None
    return now


def effect(plan, clicks):
    """For each group that is not empty its section and its pairs."""
    rows = []
    for section in range(len(plan)):
        if group(plan, section):
            pairs = [(before, setting_through(plan, section, before, clicks)) for before in settings(plan, section)]
            rows.append((section, [pair for pair in pairs if pair[1] is not None]))
    if any(not pairs for _, pairs in rows):
        return [(section, []) for section, _ in rows]
    return rows


def view(plan, state):
    headers = [section for section in range(len(plan)) if is_visible(plan, state, section)]
    return [(section, is_open(plan, state, section)) for section in headers]


def first_state(plan):
    return [settings(plan, section)[0] if group(plan, section) else 0 for section in range(len(plan))]


def after_forgetful_click(plan, state, section):
    """The state after a click in a forgetful menu."""
    after = after_click(plan, state, section)
    for other in group(plan, parent(plan, section)):
        if is_open(plan, state, other) and not is_open(plan, after, other):
            for inner in [other] + inside(plan, other):
                after[inner] = first_state(plan)[inner]
    return after


def plan_text(plan, section=0):
    """A section and all within it as a string."""
    parts = [plan_text(plan, inner) for inner in group(plan, section)]
    return plan[section][1] + ("(" + " ".join(parts) + ")" if parts else "")


def state_text(plan, state):
    return " ".join(str(section) + ":" + str(state[section]) for section in range(len(plan)) if group(plan, section))
