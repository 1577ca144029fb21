"""States: which section is open in each group, shown or not."""

from accordions.errors import InvalidStateError
from accordions.integers import check_index, is_whole_number
from accordions.plans import all_groups, all_parents, check_plan


def group_choices(kind, group):
    """Return the settings that a group may have, ascending."""
    if kind == "one" or not group:
        return [0, *group]
    return group


def all_choices(plan):
    """Return the settings that each group of the plan may have."""
    return [group_choices(row[1], group) for row, group in zip(plan, all_groups(plan))]


def has_settings(plan, value):
    """Tell whether any value is a state of what is known to be a plan."""
    if type(value) != list or len(value) != len(plan):
        return False
    rows = all_choices(plan)
    return all([is_whole_number(setting) and setting in row for setting, row in zip(value, rows)])


def is_state(plan, value):
    """Tell whether any value is a state of the plan."""
    check_plan(plan)
    return has_settings(plan, value)


def check_state(plan, state):
    """Raise an error if this is not a state of the plan."""
    if not has_settings(plan, state):
        raise InvalidStateError("this is not a state of the plan")


def first_state(plan):
    """Return the least state."""
    check_plan(plan)
    return [choices[0] for choices in all_choices(plan)]


def product_of_lengths(rows):
    """Return in how many ways one item can be taken from each list."""
    many = 1
    for row in rows:
        many = many * len(row)
    return many


def nth_of_products(rows, index):
    """Return the list with this index in list order among those with one item of each row."""
    check_index(index, product_of_lengths(rows))
    items = []
    rest = index
    # The last item varies fastest in list order, so it is found first.
    for row in rows[::-1]:
        rest, place = divmod(rest, len(row))
        items.append(row[place])
    return items[::-1]


def count_states(plan):
    """Return the number of states."""
    check_plan(plan)
    return product_of_lengths(all_choices(plan))


def nth_state(plan, index):
    """Return the state with this index in list order."""
    check_plan(plan)
    return nth_of_products(all_choices(plan), index)


def state_rank(plan, state):
    """Return the index of a state in list order."""
    check_plan(plan)
    check_state(plan, state)
    rank = 0
    for choices, setting in zip(all_choices(plan), state):
        rank = rank * len(choices) + choices.index(setting)
    return rank


def open_to_top(plan, state):
    """Return the shown sections of what is known to be a state."""
    marks = []
    for section, parent in enumerate(all_parents(plan)):
        marks.append(parent is None or (marks[parent] and state[parent] == section))
    return [section for section, mark in enumerate(marks) if mark]


def clickable_part(kind, group, setting):
    """Return the sections of a group whose headers are visible if its section is shown."""
    if kind != "step" or not group:
        return group
    place = group.index(setting)
    return group[max(0, place - 1):place + 2]


def clickable_headers(plan, state):
    """Return the visible headers of what is known to be a state."""
    groups = all_groups(plan)
    headers = []
    for section in open_to_top(plan, state):
        headers.extend(clickable_part(plan[section][1], groups[section], state[section]))
    return sorted(headers)


def shown_sections(plan, state):
    """Return the shown sections, ascending; the page is one of them."""
    check_plan(plan)
    check_state(plan, state)
    return open_to_top(plan, state)


def visible_headers(plan, state):
    """Return the sections whose headers are visible, ascending."""
    check_plan(plan)
    check_state(plan, state)
    return clickable_headers(plan, state)
