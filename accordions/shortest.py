"""The shortest click lists from a state to a goal: their number, their order, and which they are."""

from math import factorial

from accordions.clicks import is_click_list, states_while_visible
from accordions.distances import check_way, fewest_clicks, nearer_headers, walks_and_sums
from accordions.errors import InvalidClicksError
from accordions.integers import check_index
from accordions.orders import click_list_rank, nth_click_list
from accordions.plans import all_groups
from accordions.ways import places_of, shortest_ways, value_of_ways


def open_factor(before, after, work, within):
    """Return the factor of a "one" or "tab" group."""
    others = [section for section in work if section not in (before, after)]
    many = factorial(len(others))
    if before == after and before in work and others:
        # The section is open twice, first and last, so its clicks can be cut anywhere.
        many = many * (within[before] + 1)
    return many


def step_factor(group, before, after, work, within):
    """Return the factor of a "step" group."""
    places = places_of(group, [before, after, *work])
    start, end, low, high = places[0], places[1], min(places), max(places)
    ways = shortest_ways([[start, low, high, end], [start, high, low, end]])
    return value_of_ways(ways, [(group.index(section), within[section]) for section in work])


def number_of_lists(plan, state, goal):
    """Return the number of shortest click lists between what are known to be states."""
    within = walks_and_sums(plan, state, goal)[1]
    many = 1
    for section, group in enumerate(all_groups(plan)):
        before, after = state[section], goal[section]
        work = [inner for inner in group if within[inner] > 0]
        if plan[section][1] == "step" and group:
            many = many * step_factor(group, before, after, work, within)
        else:
            many = many * open_factor(before, after, work, within)
    return many


def ways_going_on(task):
    """Return the tuples of a first click, what is left after it, and the number of lists from there."""
    plan, state, goal = task
    # A list is a shortest one exactly if each of its clicks leads nearer to the goal.
    return [(section, (plan, after, goal), number_of_lists(plan, after, goal))
            for section, after in nearer_headers(plan, state, goal)]


def leads_there(plan, state, goal, value):
    """Tell whether any value is a shortest click list between what are known to be states."""
    if not is_click_list(plan, value) or len(value) != fewest_clicks(plan, state, goal):
        return False
    rows = states_while_visible(plan, state, value)
    return len(rows) > len(value) and rows[-1] == goal


def count_shortest(plan, state, goal):
    """Return the number of shortest click lists from the state to the goal."""
    check_way(plan, state, goal)
    return number_of_lists(plan, state, goal)


def nth_shortest(plan, state, goal, index):
    """Return the shortest click list with this index in list order."""
    check_way(plan, state, goal)
    check_index(index, number_of_lists(plan, state, goal))
    return nth_click_list(ways_going_on, (plan, state, goal), index)


def shortest_rank(plan, state, goal, value):
    """Return the index of a shortest click list in list order."""
    check_way(plan, state, goal)
    if not leads_there(plan, state, goal, value):
        raise InvalidClicksError("this is not a shortest click list from the state to the goal")
    return click_list_rank(ways_going_on, (plan, state, goal), value)


def is_shortest(plan, state, goal, value):
    """Tell whether any value is a shortest click list from the state to the goal."""
    check_way(plan, state, goal)
    return leads_there(plan, state, goal, value)
