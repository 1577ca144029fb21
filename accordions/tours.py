"""Tours: the shortest click lists in which given sections are shown, one time or another."""

from math import factorial

from accordions.clicks import after_one_click, is_click_list, states_while_visible
from accordions.integers import check_index
from accordions.orders import nth_click_list
from accordions.plans import all_groups, all_parents, check_plan, check_sections
from accordions.states import check_state, clickable_headers, open_to_top
from accordions.ways import places_of, shortest_ways, tour_length, value_of_ways


def check_wishes(plan, state, sections):
    """Raise an error if these are not a plan, a state and a list of sections of it."""
    check_plan(plan)
    check_state(plan, state)
    check_sections(plan, sections)


def sections_to_open(plan, sections):
    """Return the part of each group that is wanted or has a wanted section within it."""
    parents = all_parents(plan)
    parts = [[] for row in plan]
    for section in range(len(plan) - 1, 0, -1):
        if section in sections or parts[section]:
            parts[parents[section]].insert(0, section)
    return parts


def clicks_within(plan, state, parts):
    """Return for each section how many clicks of a tour are made within it."""
    groups = all_groups(plan)
    within = [0] * len(plan)
    for section in reversed(range(len(plan))):
        own = tour_length(plan[section][1], groups[section], state[section], parts[section])
        within[section] = own + sum([within[inner] for inner in parts[section]])
    return within


def tour_clicks(plan, state, sections):
    """Return the number of clicks of a tour, where all arguments are known to be valid."""
    return clicks_within(plan, state, sections_to_open(plan, sections))[0]


def step_factor(group, setting, part, within):
    """Return in how many ways a tour goes through a "step" group, and is cut by it."""
    places = places_of(group, [setting, *part])
    start, low, high = places[0], min(places), max(places)
    ways = shortest_ways([[start, low, high], [start, high, low]])
    return value_of_ways(ways, [(group.index(section), within[section]) for section in part])


def number_of_tours(plan, state, sections):
    """Return the number of tours, where all arguments are known to be valid."""
    parts = sections_to_open(plan, sections)
    within = clicks_within(plan, state, parts)
    many = 1
    for section, group in enumerate(all_groups(plan)):
        if plan[section][1] == "step" and group:
            many = many * step_factor(group, state[section], parts[section], within)
        else:
            many = many * factorial(len([inner for inner in parts[section] if inner != state[section]]))
    return many


def tours_going_on(task):
    """Return the tuples of a first click, what is left after it, and the number of tours from there."""
    plan, state, sections = task
    shown = open_to_top(plan, state)
    left = [section for section in sections if section not in shown]
    fewest = tour_clicks(plan, state, left)
    rows = []
    for section in clickable_headers(plan, state):
        after = after_one_click(plan, state, section)
        if tour_clicks(plan, after, left) < fewest:
            rows.append((section, (plan, after, left), number_of_tours(plan, after, left)))
    return rows


def fewest_to_show(plan, state, sections):
    """Return the number of clicks of the tours for these sections."""
    check_wishes(plan, state, sections)
    return tour_clicks(plan, state, sections)


def count_tours(plan, state, sections):
    """Return the number of tours for these sections."""
    check_wishes(plan, state, sections)
    return number_of_tours(plan, state, sections)


def nth_tour(plan, state, sections, index):
    """Return the tour with this index in list order."""
    check_wishes(plan, state, sections)
    check_index(index, number_of_tours(plan, state, sections))
    return nth_click_list(tours_going_on, (plan, state, sections), index)


def is_tour(plan, state, sections, value):
    """Tell whether any value is a tour for these sections."""
    check_wishes(plan, state, sections)
    if not is_click_list(plan, value) or len(value) != tour_clicks(plan, state, sections):
        return False
    rows = states_while_visible(plan, state, value)
    shown = [open_to_top(plan, row) for row in rows]
    return len(rows) > len(value) and all([any([section in row for row in shown]) for section in sections])
