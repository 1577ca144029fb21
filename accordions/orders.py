"""Things in list order, found from the numbers of those that begin alike."""


def place_of_index(numbers, index):
    """Return the place of the number within which an index falls, and the index within it."""
    place = 0
    rest = index
    while rest >= numbers[place]:
        rest -= numbers[place]
        place += 1
    return place, rest


def nth_click_list(going_on, task, index):
    """Return the click list with this index among those that fulfil a task.

    `going_on(task)` returns a tuple for each click that such a list can begin
    with, ascending: the section, the task that is left after the click, and the
    number of the lists that fulfil that one.
    """
    clicks = []
    rest = index
    rows = going_on(task)
    while rows:
        place, rest = place_of_index([row[2] for row in rows], rest)
        clicks.append(rows[place][0])
        rows = going_on(rows[place][1])
    return clicks


def click_list_rank(going_on, task, clicks):
    """Return the index of a click list among those that fulfil a task, as `nth_click_list` counts."""
    rank = 0
    rows = going_on(task)
    for click in clicks:
        place = [row[0] for row in rows].index(click)
        rank += sum([row[2] for row in rows[:place]])
        rows = going_on(rows[place][1])
    return rank
