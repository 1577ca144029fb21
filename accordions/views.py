"""Views: the visible headers and which of them are open, and what can be read from lists of views."""

from accordions.clicks import after_one_click
from accordions.errors import InvalidViewsError, NotFittingError
from accordions.plans import all_groups, all_parents, check_plan, is_section
from accordions.states import (all_choices, check_state, clickable_headers, nth_of_products, open_to_top,
                               product_of_lengths)

MOST_VIEWS = 100


def headers_seen(plan, state):
    """Return the view of what is known to be a state."""
    parents = all_parents(plan)
    return [(section, state[parents[section]] == section) for section in clickable_headers(plan, state)]


def is_header_seen(plan, value):
    """Tell whether any value is a tuple of a section and a bool."""
    return type(value) == tuple and len(value) == 2 and is_section(plan, value[0]) and isinstance(value[1], bool)


def least_state_with(plan, view):
    """Return the least state in which the sections are open that are open in these tuples."""
    opened = [section for section, is_open in view if is_open]
    state = []
    for group, choices in zip(all_groups(plan), all_choices(plan)):
        found = [section for section in group if section in opened]
        state.append((found + choices)[0])
    return state


def is_view_of_some(plan, value):
    """Tell whether any value is the view of a state of what is known to be a plan."""
    if type(value) != list or not all([is_header_seen(plan, row) for row in value]):
        return False
    # All states with this view agree with this one in what is shown.
    return headers_seen(plan, least_state_with(plan, value)) == value


def check_views(plan, views):
    """Raise an error if this is not a list of 1 to 100 views of the plan."""
    if type(views) != list or not 1 <= len(views) <= MOST_VIEWS:
        raise InvalidViewsError("this is not a list of 1 to 100 views")
    if not all([is_view_of_some(plan, view) for view in views]):
        raise InvalidViewsError("an item of this list is not a view of the plan")


def choices_alike(plan, state):
    """Return the settings that each group has in the states with the same view as this one."""
    rows = all_choices(plan)
    for section in open_to_top(plan, state):
        rows[section] = [state[section]]
    return rows


def settings_in(plan, view):
    """Return the settings that a view tells, None for each group that is not shown in it."""
    state = least_state_with(plan, view)
    shown = open_to_top(plan, state)
    return [state[section] if section in shown else None for section in range(len(plan))]


def can_change_nothing(plan, view):
    """Tell whether an open header of a "tab" or "step" group can be clicked."""
    parents = all_parents(plan)
    return any([is_open and plan[parents[section]][1] != "one" for section, is_open in view])


def agree(first, second):
    """Tell whether two lists of settings have no different ones where both are known."""
    return all([a is None or b is None or a == b for a, b in zip(first, second)])


def updated(settings, news):
    """Return the settings with those that are known from the news."""
    return [old if new is None else new for old, new in zip(settings, news)]


def settings_after_step(plan, known, view, following):
    """Return the clicked section and the settings known after it if a click leads from view to view.

    The section is 0 if the click changes nothing, and None if no click leads there.
    """
    if view == following:
        return (0 if can_change_nothing(plan, view) else None), known
    news = settings_in(plan, following)
    for section, _ in view:
        settings = after_one_click(plan, known, section)
        if agree(settings, news):
            return section, updated(settings, news)
    return None, known


def read_views(plan, views):
    """Return the clicks that show these views, None if no clicks do, and the settings known after them."""
    known = updated([None if group else 0 for group in all_groups(plan)], settings_in(plan, views[0]))
    clicks = []
    for view, following in zip(views, views[1:]):
        section, known = settings_after_step(plan, known, view, following)
        if section is None:
            return None, known
        clicks.append(section)
    return clicks, known


def view_of(plan, state):
    """Return the view of a state."""
    check_plan(plan)
    check_state(plan, state)
    return headers_seen(plan, state)


def is_view(plan, value):
    """Tell whether any value is the view of a state."""
    check_plan(plan)
    return is_view_of_some(plan, value)


def count_alike(plan, state):
    """Return the number of states with the same view as this one, itself included."""
    check_plan(plan)
    check_state(plan, state)
    return product_of_lengths(choices_alike(plan, state))


def nth_alike(plan, state, index):
    """Return the state with this index in list order among those with the same view as this one."""
    check_plan(plan)
    check_state(plan, state)
    return nth_of_products(choices_alike(plan, state), index)


def clicks_of(plan, views):
    """Return the sections clicked between the views, 0 where nothing changed, or None if they do not fit."""
    check_plan(plan)
    check_views(plan, views)
    return read_views(plan, views)[0]


def count_beginnings(plan, views):
    """Return the number of states with which the views can begin."""
    check_plan(plan)
    check_views(plan, views)
    clicks, known = read_views(plan, views)
    if clicks is None:
        return 0
    # A group that was shown at some time had one setting only until it was shown first.
    return product_of_lengths([row for row, setting in zip(all_choices(plan), known) if setting is None])


def known_settings(plan, views):
    """Return the settings after the last click, None for each group that was never shown."""
    check_plan(plan)
    check_views(plan, views)
    clicks, known = read_views(plan, views)
    if clicks is None:
        raise NotFittingError("no state and no clicks show these views")
    return known
