"""Clicks: what one click or a list of clicks does to a state."""

from accordions.errors import HiddenError, InvalidClicksError
from accordions.plans import all_parents, check_below_page, check_plan, end_of, is_section
from accordions.states import check_state, clickable_headers, first_state

MOST_CLICKS = 300


def is_click_list(plan, value):
    """Tell whether any value is a click list, whether it works or not."""
    if type(value) != list or len(value) > MOST_CLICKS:
        return False
    return all([is_section(plan, section) and section != 0 for section in value])


def check_clicks(plan, clicks):
    """Raise an error if this is not a click list of the plan."""
    if not is_click_list(plan, clicks):
        raise InvalidClicksError("this is not a click list of the plan")


def setting_after(kind, setting, section):
    """Return the setting of a group after a click on a section of it."""
    if kind == "one" and setting == section:
        return 0
    return section


def after_one_click(plan, state, section):
    """Return the state after a click on a header that is known to be visible."""
    parent = all_parents(plan)[section]
    result = list(state)
    result[parent] = setting_after(plan[parent][1], state[parent], section)
    return result


def after_forgetful_click(plan, state, section):
    """Return the state after a click after which the section that it closes is as in the first state."""
    parent = all_parents(plan)[section]
    result = after_one_click(plan, state, section)
    closed = state[parent]
    if closed in (0, result[parent]):
        return result
    end = end_of(plan, closed)
    return result[:closed] + first_state(plan)[closed:end] + result[end:]


def rows_while_visible(plan, state, clicks, after_click):
    """Return the states at the beginning and after each click before the first hidden header.

    `after_click(plan, state, section)` returns the state after one click.
    """
    rows = [list(state)]
    for section in clicks:
        if section not in clickable_headers(plan, rows[-1]):
            return rows
        rows.append(after_click(plan, rows[-1], section))
    return rows


def states_while_visible(plan, state, clicks):
    """Return the states at the beginning and after each click before the first hidden header."""
    return rows_while_visible(plan, state, clicks, after_one_click)


def states_on_the_way(plan, state, clicks, after_click):
    """Return the states at the beginning and after each click, if this is a click list that works."""
    check_clicks(plan, clicks)
    rows = rows_while_visible(plan, state, clicks, after_click)
    if len(rows) <= len(clicks):
        raise HiddenError(len(rows) - 1)
    return rows


def after_clicks(plan, state, *headers):
    """Return the state after clicks on these headers."""
    check_plan(plan)
    check_state(plan, state)
    return states_on_the_way(plan, state, list(headers), after_one_click)[-1]


def first_hidden(plan, state, clicks):
    """Return the index of the first click whose header is hidden, or None."""
    check_plan(plan)
    check_state(plan, state)
    check_clicks(plan, clicks)
    rows = states_while_visible(plan, state, clicks)
    if len(rows) > len(clicks):
        return None
    return len(rows) - 1


def steps(plan, state, clicks):
    """Yield the state at the beginning and after each click."""
    check_plan(plan)
    check_state(plan, state)
    # All states are known before the first is yielded, so that the whole list
    # is checked and no later change of an argument or a result can matter.
    for row in states_on_the_way(plan, state, clicks, after_one_click):
        yield row


def back_click(plan, state, section):
    """Return the section whose click undoes a click on this header, or None."""
    check_plan(plan)
    check_state(plan, state)
    check_below_page(plan, section)
    if section not in clickable_headers(plan, state):
        raise HiddenError(0)
    parent = all_parents(plan)[section]
    setting = state[parent]
    if plan[parent][1] == "one" and setting in (0, section):
        return section
    if setting == section:
        return None
    return setting


def clicks_between(plan, state, other):
    """Return the headers of which one click leads from the one state to the other."""
    check_plan(plan)
    check_state(plan, state)
    check_state(plan, other)
    headers = clickable_headers(plan, state)
    return [section for section in headers if after_one_click(plan, state, section) == other]
