"""Ways from setting to setting of one group: how long they are, and how clicks within it join in."""

from math import comb


def places_of(group, sections):
    """Return the places that these sections have in their group."""
    return [group.index(section) for section in sections]


def walk_length(kind, group, before, after, work):
    """Return the walk of a group between two settings if these of its sections need work."""
    if kind == "step" and group:
        places = places_of(group, [before, after, *work])
        return step_walk_length(places[0], places[1], min(places), max(places))
    others = [section for section in work if section not in (before, after)]
    if before == after and not others:
        return 0
    return len(others) + 1


def step_walk_length(start, end, low, high):
    """Return how many clicks lead from place to place and to all places from low to high."""
    return high - low + min(start - low + high - end, end - low + high - start)


def tour_length(kind, group, setting, wanted):
    """Return how many clicks on headers of a group open all these of its sections once."""
    if kind == "step" and group:
        places = places_of(group, [setting, *wanted])
        return step_tour_length(places[0], min(places), max(places))
    return len([section for section in wanted if section != setting])


def step_tour_length(start, low, high):
    """Return how many clicks lead from a place to all places from low to high."""
    return high - low + min(start - low, high - start)


def straight_way(turns):
    """Return the places of the way that goes straight from each of these places to the next."""
    way = [turns[0]]
    for turn in turns[1:]:
        while way[-1] != turn:
            way.append(way[-1] + (1 if way[-1] < turn else -1))
    return way


def shortest_ways(rows):
    """Return the shortest of the straight ways through these rows of places, each way once."""
    ways = [straight_way(turns) for turns in rows]
    least = min([len(way) for way in ways])
    found = []
    for way in ways:
        if len(way) == least and way not in found:
            found.append(way)
    return found


def value_of_ways(ways, amounts):
    """Return in how many ways the clicks within the places can be spread over the ways' visits.

    The amounts are tuples of a place and the number of the clicks within it.
    """
    total = 0
    for way in ways:
        value = 1
        for place, amount in amounts:
            # The order of the clicks is counted elsewhere, so only the cuts
            # between one visit and the next are free here.
            value = value * comb(amount + way.count(place) - 1, amount)
        total += value
    return total
