"""Searches through all states by single clicks, to compare the program with."""

from tests import definitions


def clicks_from(plan, state):
    """The clicks that can be made in a state, each with the state after it."""
    return [(section, definitions.after_click(plan, state, section)) for section in range(1, len(plan))
            if definitions.is_visible(plan, state, section)]


def graph(plan):
    """For each state, as a tuple, its clicks with the states after them as tuples."""
    return {tuple(state): [(section, tuple(after)) for section, after in clicks_from(plan, state)]
            for state in definitions.states(plan)}


def distances(moves, state):
    """The distance of each state, as a tuple, from this one."""
    found = {tuple(state): 0}
    layer = [tuple(state)]
    while layer:
        reached = []
        for here in layer:
            for _, after in moves[here]:
                if after not in found:
                    found[after] = found[here] + 1
                    reached.append(after)
        layer = reached
    return found


def fewest_lists(start, moves, is_done):
    """All shortest lists of moves from the start to something that is done, sorted."""
    layer = {start: [[]]}
    seen = {start}
    while not any(is_done(here) for here in layer):
        reached = {}
        for here, lists in layer.items():
            for click, after in moves(here):
                if after not in seen:
                    reached.setdefault(after, []).extend(row + [click] for row in lists)
        seen.update(reached)
        layer = reached
    return sorted(row for here, lists in layer.items() if is_done(here) for row in lists)


def shortest_lists(moves, state, goal):
    """All shortest click lists from the one state to the other, sorted."""
    return fewest_lists(tuple(state), lambda here: moves[here], lambda here: here == tuple(goal))


def tours(plan, moves, state, sections):
    """All shortest click lists during which each of the sections is shown, sorted."""
    def left_after(here, left):
        return tuple(section for section in left if not definitions.is_shown(plan, here, section))

    def going_on(node):
        here, left = node
        return [(section, (after, left_after(after, left))) for section, after in moves[here]]

    start = (tuple(state), left_after(state, sections))
    return fewest_lists(start, going_on, lambda node: not node[1])


def runs(moves, clicks):
    """For each state, as a tuple, from which a click list works the state to which it leads."""
    found = {}
    for start in moves:
        here = start
        for click in clicks:
            here = dict(moves[here]).get(click)
            if here is None:
                break
        else:
            found[start] = here
    return found


def readings(moves, views, wanted):
    """All ways to see these views: tuples of the state at the beginning, the clicks and the state at the end.

    `views` has the view of each state. A click that changes nothing is a 0.
    """
    found = {(state, (), state) for state in moves if views[state] == wanted[0]}
    for view in wanted[1:]:
        found = {(start, clicks + (click if after != here else 0,), after) for start, clicks, here in found
                 for click, after in moves[here] if views[after] == view}
    return found


def walk(moves, chance, length):
    """A state and a click list that works from it, by chance."""
    start = here = chance.choice(sorted(moves))
    clicks = []
    for _ in range(length if moves[here] else 0):
        click, here = chance.choice(moves[here])
        clicks.append(click)
    return list(start), clicks
