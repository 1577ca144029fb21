"""Effects: what a click list does from all states at once, group by group.

The moves of a group are a dict from the settings with which all clicks so far
were possible to the settings after them. An empty group has the move from 0 to
0, so that a list works from as many states as there are products of moves.
"""

from accordions.clicks import check_clicks, setting_after
from accordions.errors import InvalidNumberError
from accordions.integers import is_whole_number
from accordions.plans import all_groups, all_parents, check_plan
from accordions.states import all_choices, clickable_part, nth_of_products, product_of_lengths

MOST_ROUNDS = 10 ** 30


def check_list(plan, clicks):
    """Raise an error if these are not a plan and a click list of it."""
    check_plan(plan)
    check_clicks(plan, clicks)


def check_rounds(count):
    """Raise an error if a list cannot be repeated so many times."""
    if not is_whole_number(count) or not 0 <= count <= MOST_ROUNDS:
        raise InvalidNumberError("the count is not an integer from 0 to 10 ** 30")


def no_moves(plan):
    """Return the moves of each group without a click: all settings stay."""
    return [{setting: setting for setting in choices} for choices in all_choices(plan)]


def clicked(kind, group, moves, section):
    """Return the moves of a group with one more click on a header of it."""
    return {before: setting_after(kind, setting, section) for before, setting in moves.items()
            if section in clickable_part(kind, group, setting)}


def with_open(moves, section):
    """Return the moves of a group after which this section of it is open."""
    return {before: setting for before, setting in moves.items() if setting == section}


def moves_of_list(plan, clicks):
    """Return the moves of each group for a click list."""
    parents = all_parents(plan)
    groups = all_groups(plan)
    moves = no_moves(plan)
    for section in clicks:
        inner = parents[section]
        moves[inner] = clicked(plan[inner][1], groups[inner], moves[inner], section)
        while inner != 0:
            outer = parents[inner]
            moves[outer] = with_open(moves[outer], inner)
            inner = outer
    return moves


def one_after_another(first, second):
    """Return the moves of a group that makes these moves and then those."""
    return {before: second[setting] for before, setting in first.items() if setting in second}


def repeated(nothing, moves, count):
    """Return the moves of a group that makes its moves so many times; `nothing` are those of no time."""
    result = nothing
    # The moves of 1, 2, 4, 8 and so on times; the count has some of them as its sum.
    doubled = moves
    rest = count
    while rest > 0:
        if rest % 2 == 1:
            result = one_after_another(result, doubled)
        doubled = one_after_another(doubled, doubled)
        rest = rest // 2
    return result


def effect_from_moves(plan, moves):
    """Return the effect of a list with these moves."""
    works = product_of_lengths(moves) > 0
    return [(section, list(moves[section].items()) if works else [])
            for section, group in enumerate(all_groups(plan)) if group]


def effect_of(plan, clicks):
    """Return the effect of a click list."""
    check_list(plan, clicks)
    return effect_from_moves(plan, moves_of_list(plan, clicks))


def effect_of_rounds(plan, clicks, count):
    """Return the effect of a click list that is repeated so many times."""
    check_list(plan, clicks)
    check_rounds(count)
    once = moves_of_list(plan, clicks)
    return effect_from_moves(plan, [repeated(nothing, moves, count) for nothing, moves in zip(no_moves(plan), once)])


def same_effect(plan, first, second):
    """Tell whether two click lists have the same effect."""
    check_list(plan, first)
    check_clicks(plan, second)
    effects = [effect_from_moves(plan, moves_of_list(plan, clicks)) for clicks in (first, second)]
    return effects[0] == effects[1]


def count_starts(plan, clicks):
    """Return the number of states from which a click list works."""
    check_list(plan, clicks)
    return product_of_lengths(moves_of_list(plan, clicks))


def nth_start(plan, clicks, index):
    """Return the state with this index in list order among those from which a click list works."""
    check_list(plan, clicks)
    return nth_of_products([list(moves) for moves in moves_of_list(plan, clicks)], index)


def count_ends(plan, clicks):
    """Return the number of different states to which a click list leads."""
    check_list(plan, clicks)
    return product_of_lengths([sorted(set(list(moves.values()))) for moves in moves_of_list(plan, clicks)])
