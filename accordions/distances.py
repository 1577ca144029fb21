"""Distances: the fewest clicks from a state to another one, group by group."""

from accordions.clicks import after_one_click
from accordions.plans import all_groups, check_plan
from accordions.states import all_choices, check_state, clickable_headers
from accordions.ways import walk_length


def check_way(plan, state, goal):
    """Raise an error if these are not a plan and two states of it."""
    check_plan(plan)
    check_state(plan, state)
    check_state(plan, goal)


def walks_and_sums(plan, state, goal):
    """Return the walk of each group, and for each section the sum of all walks within it."""
    groups = all_groups(plan)
    lengths = [0] * len(plan)
    within = [0] * len(plan)
    for section in reversed(range(len(plan))):
        # A section needs work exactly if there are clicks to be made within it.
        work = [inner for inner in groups[section] if within[inner] > 0]
        kind = plan[section][1]
        lengths[section] = walk_length(kind, groups[section], state[section], goal[section], work)
        within[section] = lengths[section] + sum([within[inner] for inner in work])
    return lengths, within


def fewest_clicks(plan, state, goal):
    """Return the distance of what are known to be states."""
    return walks_and_sums(plan, state, goal)[1][0]


def nearer_headers(plan, state, goal):
    """Return the tuples of a visible header that leads nearer and the state after its click."""
    here = fewest_clicks(plan, state, goal)
    found = []
    for section in clickable_headers(plan, state):
        after = after_one_click(plan, state, section)
        if fewest_clicks(plan, after, goal) < here:
            found.append((section, after))
    return found


def distance(plan, state, goal):
    """Return the number of clicks of the shortest lists from the state to the goal."""
    check_way(plan, state, goal)
    return fewest_clicks(plan, state, goal)


def walks(plan, state, goal):
    """Return the tuples of a section and the walk of its group, where it is not 0."""
    check_way(plan, state, goal)
    lengths = walks_and_sums(plan, state, goal)[0]
    return [(section, length) for section, length in enumerate(lengths) if length > 0]


def working_sections(plan, state, goal):
    """Return the sections that need work, ascending."""
    check_way(plan, state, goal)
    within = walks_and_sums(plan, state, goal)[1]
    return [section for section, clicks in enumerate(within) if clicks > 0]


def nearer_clicks(plan, state, goal):
    """Return the visible headers of which a click makes the distance smaller, ascending."""
    check_way(plan, state, goal)
    return [section for section, _ in nearer_headers(plan, state, goal)]


def greatest_distance(plan):
    """Return the greatest distance of two states of the plan."""
    check_plan(plan)
    groups = all_groups(plan)
    rows = all_choices(plan)
    within = [0] * len(plan)
    for section in reversed(range(len(plan))):
        # More sections that need work never make a walk shorter, so all that can do.
        work = [inner for inner in groups[section] if within[inner] > 0]
        lengths = [walk_length(plan[section][1], groups[section], before, after, work)
                   for before in rows[section] for after in rows[section]]
        within[section] = max(lengths) + sum([within[inner] for inner in work])
    return within[0]
