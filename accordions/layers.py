"""Layers: the states at each distance from a state, their numbers and their order.

Numbers by distance are lists whose item d is the number of choices that take d
clicks. Item 0 counts the choice that changes nothing; the last item is not 0.
"""

from accordions.distances import fewest_clicks
from accordions.integers import check_count, check_index
from accordions.orders import place_of_index
from accordions.plans import all_groups, check_plan
from accordions.states import all_choices, check_state
from accordions.ways import places_of


def combined(first, second):
    """Return the numbers by distance of two choices that are made independently."""
    result = [0] * (len(first) + len(second) - 1)
    for here, many in enumerate(first):
        for there, others in enumerate(second):
            result[here + there] += many * others
    return result


def all_combined(rows):
    """Return the numbers by distance of choices that are made independently."""
    result = [1]
    for row in rows:
        result = combined(result, row)
    return result


def either(rows):
    """Return the numbers by distance of one choice out of several kinds of choices."""
    result = [0] * max([len(row) for row in rows])
    for row in rows:
        for clicks, many in enumerate(row):
            result[clicks] += many
    return result


def with_approach(numbers, clicks):
    """Return the numbers by distance if so many clicks more are needed to make any of their clicks."""
    if len(numbers) == 1:
        return numbers
    return numbers[:1] + [0] * clicks + numbers[1:]


def open_numbers(group, before, after, numbers):
    """Return the numbers of what can change within a "one" or "tab" group between two settings."""
    ends = all_combined([numbers[section] for section in group if section in (before, after)])
    others = all_combined([with_approach(numbers[section], 1) for section in group if section not in (before, after)])
    if before == after:
        # The way back to the section is one click, needed only if it is left at all.
        return combined(ends, with_approach(others, 1))
    return [0] + combined(ends, others)


def step_numbers(group, before, after, numbers):
    """Return the numbers of what can change within a "step" group between two settings."""
    low, high = sorted(places_of(group, [before, after]))
    between = all_combined([numbers[section] for section in group[low:high + 1]])
    below = detour_numbers(group[:low], numbers)
    above = detour_numbers(group[high + 1:][::-1], numbers)
    return [0] * (high - low) + all_combined([below, between, above])


def detour_numbers(sections, numbers):
    """Return the numbers of what can change in sections beside the way, the farthest one first."""
    result = [1]
    for section in sections:
        # Each step that the detour goes on is made there and back.
        result = with_approach(combined(result, numbers[section]), 2)
    return result


def numbers_within(plan, state, rows):
    """Return the numbers of the goals at each distance whose settings are in the rows."""
    groups = all_groups(plan)
    numbers = [[1] for row in plan]
    for section in reversed(range(len(plan))):
        group = groups[section]
        before = state[section]
        if plan[section][1] == "step" and group:
            parts = [step_numbers(group, before, after, numbers) for after in rows[section]]
        else:
            parts = [open_numbers(group, before, after, numbers) for after in rows[section]]
        numbers[section] = either(parts)
    return numbers[0]


def number_at(plan, state, rows, count):
    """Return the number of the goals at one distance whose settings are in the rows."""
    numbers = numbers_within(plan, state, rows)
    if count >= len(numbers):
        return 0
    return numbers[count]


def numbers_choosing(plan, state, rows, section, choices, count):
    """Return for each of these settings of a section the number of goals at a distance that have it."""
    before, behind = rows[:section], rows[section + 1:]
    return [number_at(plan, state, before + [[choice]] + behind, count) for choice in choices]


def numbers_by_distance(plan, state):
    """Return the numbers of states with the distances 0, 1, 2 and so on, up to the greatest."""
    check_plan(plan)
    check_state(plan, state)
    return numbers_within(plan, state, all_choices(plan))


def farthest(plan, state):
    """Return the greatest distance of a state from this one, and the number of states with it."""
    check_plan(plan)
    check_state(plan, state)
    numbers = numbers_within(plan, state, all_choices(plan))
    return len(numbers) - 1, numbers[-1]


def nth_at(plan, state, count, index):
    """Return the state with this index in list order among those with the distance `count`."""
    check_plan(plan)
    check_state(plan, state)
    check_count(count)
    rows = all_choices(plan)
    check_index(index, number_at(plan, state, rows, count))
    rest = index
    for section, choices in enumerate(all_choices(plan)):
        numbers = numbers_choosing(plan, state, rows, section, choices, count)
        place, rest = place_of_index(numbers, rest)
        rows[section] = [choices[place]]
    return [row[0] for row in rows]


def rank_at(plan, state, other):
    """Return the index of a state in list order among those with its distance."""
    check_plan(plan)
    check_state(plan, state)
    check_state(plan, other)
    rows = all_choices(plan)
    count = fewest_clicks(plan, state, other)
    rank = 0
    for section, setting in enumerate(other):
        smaller = [choice for choice in rows[section] if choice < setting]
        rank += sum(numbers_choosing(plan, state, rows, section, smaller, count))
        rows[section] = [setting]
    return rank
