"""The plan and the states of the document's examples, and values for the other tests."""

from itertools import product

O = "one"
KINDS = ("one", "tab", "step")
P = [(0, O), (1, O), (2, O), (2, O), (1, "tab"), (2, O), (2, O), (1, "step"), (2, O), (2, O), (2, O)]
F = [0, 0, 0, 0, 5, 0, 0, 8, 0, 0, 0]
G = [1, 3, 0, 0, 6, 0, 0, 10, 0, 0, 0]

PAGE = [(0, O)]
CHAIN = [(depth, KINDS[depth % 3]) for depth in range(40)]
STEPS = [(0, "step")] + [(1, O)] * 39
TABS = [(0, "tab")] + [(1, O)] * 39
ONES = [(0, O)] + [(1, O)] * 39
# 13 sections with two sections each below the page: 40 in all.
MIXED = [(0, "tab")] + [(1, KINDS[k // 3 % 3]) if k % 3 == 0 else (2, "step") for k in range(39)]
LARGE_PLANS = (CHAIN, STEPS, TABS, ONES, MIXED)
# Chains of one kind, and a group of 20 sections of which 19 have one section each.
CHAINS = tuple([(depth, kind) for depth in range(40)] for kind in KINDS)
PAIRS = tuple([(0, kind)] + [(1 + k % 2, O) for k in range(39)] for kind in KINDS)


class SubList(list):
    pass


class SubTuple(tuple):
    pass


class Agreeable:
    """Equal to everything, so that only a look at its kind can reject it."""

    def __eq__(self, other):
        return True

    __hash__ = None


def other_kinds():
    """Values that are neither lists nor integers."""
    return [None, True, False, 1.0, 0.0, "", "one", "0", b"", b"\x01", (), (1,), ((0, "one"),), {}, {0: "one"},
            set(), {1}, frozenset(), range(1), object(), Agreeable(), int, list, len, iter([1]), SubTuple((1,)),
            float("nan"), 1j]


def wrong_sections(plan):
    """Values that are no section of the plan."""
    size = len(plan)
    return other_kinds() + [-1, -size, size, size + 1, 10 ** 30, -10 ** 30, [0], [], SubList([0])]


def wrong_plans():
    """Values of the kind of a plan that are none, or of other kinds."""
    return other_kinds() + [
        [], [()], [(0,)], [(0, "one", 0)], [[0, "one"]], ((0, "one"),), [(1, "one")], [(-1, "one")],
        [(True, "one")], [(False, "one")], [("0", "one")], [(0.0, "one")], [(None, "one")], [(0, "two")],
        [(0, "One")], [(0, "")], [(0, None)], [(0, 0)], [(0, True)], [(0, b"one")], [(0, ["one"])], [(0, Agreeable())],
        [(Agreeable(), "one")], ["0o"], [None], [0, "one"], SubList([(0, "one")]), [SubTuple((0, "one"))],
        [(0, "one"), (0, "one")], [(0, "one"), (2, "one")], [(0, "one"), (-1, "one")],
        [(0, "one"), (True, "one")], [(0, "one"), (1, "one"), (3, "one")], [(0, "one"), (1, "one"), (0, "one")],
        [(0, "one"), (1, "one"), (2, "one"), (4, "one")], ONES + [(1, O)], CHAIN + [(40, O)], [(0, O)] * 2,
    ]


def depth_rows(size):
    """All lists of depths of plans with this many sections."""
    rows = [[0]]
    for _ in range(size - 1):
        rows = [row + [depth] for row in rows for depth in range(1, row[-1] + 2)]
    return rows


def small_plans(most):
    """All plans with at most so many sections."""
    for size in range(1, most + 1):
        for depths in depth_rows(size):
            for kinds in product(KINDS, repeat=size):
                yield list(zip(depths, kinds))


def small_shapes(most):
    """The plans with at most so many sections of which each empty group is a "one" group."""
    for plan in small_plans(most):
        below = [depth for depth, _ in plan[1:]] + [0]
        if all(kind == O for (depth, kind), next_depth in zip(plan, below) if next_depth <= depth):
            yield plan


def typical_plans():
    """The example and plans with one kind of group each, all with few states."""
    yield P
    for kind in KINDS:
        yield [(0, kind), (1, kind), (2, kind), (2, O), (2, O), (1, kind), (1, kind), (2, O), (1, O)]
        yield [(depth, kind) for depth in range(5)]
        yield [(0, kind)] + [(1, O)] * 6
        yield [(0, kind), (1, "step"), (2, "tab"), (3, O), (3, O), (2, "step"), (3, O), (3, O), (1, "tab"), (2, O)]
