"""Points 2, 15 and 16: the shortest click lists."""

import unittest
from math import factorial

from accordions.clicks import after_clicks, first_hidden
from accordions.distances import distance
from accordions.errors import InvalidClicksError, InvalidNumberError, InvalidPlanError, InvalidStateError
from accordions.shortest import count_shortest, is_shortest, nth_shortest, shortest_rank
from accordions.states import count_states, first_state, nth_state
from tests import definitions, searches
from tests.examples import (CHAIN, CHAINS, F, G, KINDS, LARGE_PLANS, MIXED, O, ONES, P, PAGE, PAIRS, STEPS, TABS,
                            Agreeable, SubList, SubTuple, other_kinds, small_shapes, typical_plans, wrong_plans,
                            wrong_sections)

A, B = [1, 0, 0, 0, 5, 0, 0, 8, 0, 0, 0], [1, 2, 0, 0, 6, 0, 0, 8, 0, 0, 0]
INDEXED = (lambda *arguments: nth_shortest(*arguments, 0), lambda *arguments: shortest_rank(*arguments, []),
           lambda *arguments: is_shortest(*arguments, []), count_shortest)


def all_shortest(plan, state, goal):
    return [nth_shortest(plan, state, goal, index) for index in range(count_shortest(plan, state, goal))]


def some_places(many):
    """Some of the indices of so many things, the first and the last among them."""
    if many < 30:
        return range(many)
    return sorted({0, 1, many // 7, many // 3, many // 2, many - 2, many - 1})


class ShortestTest(unittest.TestCase):
    def assert_lists(self, plan, state, goal, lists):
        """These are all shortest lists, in list order."""
        self.assertEqual(count_shortest(plan, state, goal), len(lists), (plan, state, goal))
        for index in some_places(len(lists)):
            clicks = lists[index]
            self.assertEqual(nth_shortest(plan, state, goal, index), clicks)
            self.assertEqual(shortest_rank(plan, state, goal, clicks), index)
            self.assertIs(is_shortest(plan, state, goal, clicks), True)

    def test_examples(self):
        self.assertEqual(count_shortest(P, F, G), 2)
        self.assertEqual([nth_shortest(P, F, G, 0), nth_shortest(P, F, G, 1)],
                         [[4, 6, 7, 9, 10, 1, 3], [7, 9, 10, 4, 6, 1, 3]])
        self.assertEqual(all_shortest(P, A, B), [[2, 4, 6, 1], [4, 6, 1, 2]])

    def test_all_lists_of_a_search_in_small_plans(self):
        for plan in small_shapes(5):
            moves = searches.graph(plan)
            states = definitions.states(plan)
            for place, state in enumerate(states):
                for goal in states[place % 2::2]:
                    self.assert_lists(plan, state, goal, searches.shortest_lists(moves, state, goal))

    def test_all_lists_of_a_search_in_typical_plans(self):
        for plan in typical_plans():
            moves = searches.graph(plan)
            states = definitions.states(plan)
            for place, state in enumerate(states[::3]):
                for goal in states[place % 5::5]:
                    self.assert_lists(plan, state, goal, searches.shortest_lists(moves, state, goal))

    def test_product_over_the_groups(self):
        for plan in [*small_shapes(4), *typical_plans()]:
            states = definitions.states(plan)
            for place, state in enumerate(states):
                for goal in states[place % 5::5]:
                    many = 1
                    for section in range(len(plan)):
                        many *= definitions.factor(plan, state, goal, section)
                    self.assertEqual(count_shortest(plan, state, goal), many, (plan, state, goal))

    def test_equal_states_have_the_empty_list(self):
        for plan in (P, PAGE, *LARGE_PLANS, *CHAINS):
            state = nth_state(plan, count_states(plan) - 1)
            self.assert_lists(plan, state, list(state), [[]])
            self.assertIs(is_shortest(plan, state, state, [1]), False)

    def test_page_alone(self):
        for kind in KINDS:
            self.assert_lists([(0, kind)], [0], [0], [[]])


class FactorTest(unittest.TestCase):
    """Groups whose factor can be told by hand."""

    def test_sections_in_any_order(self):
        for kind in ("one", "tab"):
            plan = [(0, kind)] + [(1 + k % 2, O) for k in range(14)]
            state, goal = [1] + [0] * 14, [13] + [0] * 14
            for section in (3, 5, 7, 9, 11):
                goal[section] = section + 1
            self.assertEqual(count_shortest(plan, state, goal), 120)
            self.assertEqual(nth_shortest(plan, state, goal, 0), [3, 4, 5, 6, 7, 8, 9, 10, 11, 12, 13])
            self.assertEqual(nth_shortest(plan, state, goal, 119), [11, 12, 9, 10, 7, 8, 5, 6, 3, 4, 13])
            goal[1], goal[13] = 2, 14
            # What is done in the first and the last section has but one place.
            self.assertEqual(count_shortest(plan, state, goal), 120)
            self.assertEqual(nth_shortest(plan, state, goal, 0), [2, 3, 4, 5, 6, 7, 8, 9, 10, 11, 12, 13, 14])

    def test_equal_settings_while_the_open_section_and_others_need_work(self):
        for kind in ("one", "tab"):
            plan = [(0, kind), (1, "step"), (2, O), (2, O), (2, O), (1, O), (2, O), (1, O), (2, O)]
            state, goal = [1, 2, 0, 0, 0, 0, 0, 0, 0], [1, 4, 0, 0, 0, 6, 0, 8, 0]
            # 2! orders of the others, and 2 clicks in section 1 that are cut at one of 3 places.
            self.assertEqual(all_shortest(plan, state, goal), [
                [3, 4, 5, 6, 7, 8, 1], [3, 4, 7, 8, 5, 6, 1], [3, 5, 6, 7, 8, 1, 4], [3, 7, 8, 5, 6, 1, 4],
                [5, 6, 7, 8, 1, 3, 4], [7, 8, 5, 6, 1, 3, 4]])
            alone = goal[:5] + [0] * 4
            self.assertEqual(all_shortest(plan, state, alone), [[3, 4]])
            others = state[:2] + goal[2:]
            self.assertEqual(all_shortest(plan, state, others), [[5, 6, 7, 8, 1], [7, 8, 5, 6, 1]])

    def test_nothing_open_before_and_after(self):
        plan = [(0, O), (1, O), (2, O), (1, O), (2, O)]
        self.assertEqual(all_shortest(plan, [0] * 5, [0, 2, 0, 4, 0]), [[1, 2, 3, 4, 3], [3, 4, 1, 2, 1]])
        self.assertEqual(all_shortest(plan, [0] * 5, [0, 2, 0, 0, 0]), [[1, 2, 1]])
        self.assertEqual(all_shortest(plan, [1, 0, 0, 0, 0], [0, 2, 0, 0, 0]), [[2, 1]])
        self.assertEqual(all_shortest(plan, [1, 0, 0, 0, 0], [0, 0, 0, 4, 0]), [[3, 4, 3]])

    def test_steps_with_two_ways(self):
        plan = [(0, "step"), (1, O), (2, O), (1, O), (1, O), (2, O)]
        state, goal = [3, 0, 0, 0, 0, 0], [3, 2, 0, 0, 5, 0]
        self.assertEqual(all_shortest(plan, state, goal), [[1, 2, 3, 4, 5, 3], [4, 5, 3, 1, 2, 3]])
        self.assertEqual(all_shortest(plan, state, [3, 2, 0, 0, 0, 0]), [[1, 2, 3]])
        self.assertEqual(all_shortest(plan, [1] + state[1:], [1] + goal[1:]),
                         [[2, 3, 4, 5, 3, 1], [3, 4, 5, 3, 1, 2]])

    def test_steps_that_the_way_comes_to_more_than_once(self):
        plan = [(0, "step"), (1, O), (2, O), (1, "step"), (2, O), (2, O), (2, O), (1, O), (2, O)]
        state, goal = [3, 0, 0, 4, 0, 0, 0, 0, 0], [3, 2, 0, 6, 0, 0, 0, 8, 0]
        # Two ways, and two clicks that are spread over the three visits of the place in the middle.
        self.assertEqual(count_shortest(plan, state, goal), 12)
        self.assertEqual(nth_shortest(plan, state, goal, 0), [1, 2, 3, 5, 6, 7, 8, 3])
        self.assertEqual(nth_shortest(plan, state, goal, 5), [5, 6, 1, 2, 3, 7, 8, 3])
        self.assertEqual(nth_shortest(plan, state, goal, 11), [7, 8, 3, 5, 6, 1, 2, 3])
        # From the first place to the last one each place is visited once.
        self.assertEqual(count_shortest(plan, [1] + state[1:], [7] + goal[1:]), 1)
        # The way back over the first place visits the one in the middle twice.
        self.assertEqual(count_shortest(plan, state, [7] + goal[1:]), 3)
        # Equal settings at an end: one way, first and last place twice or once, the middle twice.
        self.assertEqual(count_shortest(plan, [1] + state[1:], [1] + goal[1:]), 2 * 3)

    def test_factors_of_groups_within_groups(self):
        plan = [(0, "tab"), (1, O), (2, O), (3, O), (2, O), (3, O), (1, O), (2, O)]
        state, goal = [1, 0, 0, 0, 0, 0, 0, 0], [1, 0, 3, 0, 5, 0, 7, 0]
        # 2! within section 1, whose 5 clicks are cut at one of 6 places by the visit of section 6.
        self.assertEqual(count_shortest(plan, state, goal), 12)
        rows = all_shortest(plan, state, goal)
        self.assertEqual(rows, sorted(rows))
        self.assertEqual([rows[0], rows[-1]], [[2, 3, 4, 5, 4, 6, 7, 1], [6, 7, 1, 4, 5, 2, 3, 2]])


class LargeTest(unittest.TestCase):
    def assert_index(self, plan, state, goal, index):
        clicks = nth_shortest(plan, state, goal, index)
        self.assertEqual(len(clicks), distance(plan, state, goal))
        self.assertEqual(after_clicks(plan, state, *clicks), goal)
        self.assertEqual(shortest_rank(plan, state, goal, clicks), index)
        self.assertIs(is_shortest(plan, state, goal, clicks), True)
        return clicks

    def test_great_numbers(self):
        goal = [0] + [k + 1 if k % 2 and k < 38 else 0 for k in range(1, 40)]
        one, tab, step = PAIRS
        for plan, here in ((one, 0), (tab, 39)):
            state, end = [here] + [0] * 39, [here] + goal[1:]
            many = factorial(19)
            self.assertEqual(count_shortest(plan, state, end), many)
            numbers = list(range(1, 39))
            last = [section for k in range(37, 0, -2) for section in (k, k + 1)]
            self.assertEqual(self.assert_index(plan, state, end, 0), numbers + [39 if here else 37])
            self.assertEqual(self.assert_index(plan, state, end, many - 1), last + [39 if here else 1])
            for index in (1, many // 3, many // 2 + 1, many - 2):
                before = nth_shortest(plan, state, end, index - 1)
                self.assertLess(before, self.assert_index(plan, state, end, index))
        # In the middle there are two ways; each section but the ends is come to twice, the middle thrice.
        state, end = [19] + [0] * 39, [19] + goal[1:]
        many = count_shortest(step, state, end)
        self.assertEqual(distance(step, state, end), 36 + 19)
        self.assertEqual(many, 2 * 2 ** 16 * 3)
        first = self.assert_index(step, state, end, 0)
        self.assertEqual(first[:3], [17, 15, 13])
        last = self.assert_index(step, state, end, many - 1)
        self.assertEqual(last[:3], [21, 23, 25])
        for index in (many // 2 - 1, many // 2):
            self.assert_index(step, state, end, index)

    def test_great_numbers_of_two_groups(self):
        # Within section 1, 17 sections come in any order, and the open one first or last;
        # all clicks within it are cut at one place by the visit of section 38.
        plan = [(0, "tab"), (1, "tab")] + [(2 + k % 2, O) for k in range(36)] + [(1, O), (2, O)]
        goal = [1, 2] + [k + 1 if k % 2 == 0 and k < 38 else 0 for k in range(2, 38)] + [39, 0]
        state = [1, 2] + [0] * 38
        many = count_shortest(plan, state, goal)
        self.assertEqual(many, factorial(17) * 2 * (distance(plan, state, goal) - 3 + 1))
        for index in (0, 10 ** 9, many - 1):
            self.assert_index(plan, state, goal, index)

    def test_large_plans(self):
        for plan in (*LARGE_PLANS, *CHAINS, *PAIRS):
            total = count_states(plan)
            state, goal = nth_state(plan, total // 2), nth_state(plan, total - 1)
            for first, second in ((state, goal), (goal, state), (first_state(plan), goal)):
                many = count_shortest(plan, first, second)
                rows = [self.assert_index(plan, first, second, index) for index in some_places(many)[:3]]
                self.assertEqual(rows, sorted(rows))
                self.assert_index(plan, first, second, many - 1)

    def test_one_group_of_thirty_nine(self):
        for plan in (TABS, ONES):
            self.assertEqual(all_shortest(plan, [1] + [0] * 39, [39] + [0] * 39), [[39]])
        self.assertEqual(all_shortest(ONES, [5] + [0] * 39, [0] * 40), [[5]])
        self.assertEqual(all_shortest(STEPS, [3] + [0] * 39, [39] + [0] * 39), [list(range(4, 40))])
        self.assertEqual(all_shortest(STEPS, [39] + [0] * 39, [1] + [0] * 39), [list(range(38, 0, -1))])

    def test_deep_chain(self):
        chain, _, _ = CHAINS
        goal = [0] * 38 + [39, 0]
        self.assertEqual(all_shortest(chain, [0] * 40, goal), [list(range(1, 40)) + list(range(38, 0, -1))])
        self.assertEqual(all_shortest(chain, goal, [0] * 40), [list(range(1, 40)) + list(range(38, 0, -1))])


class ValuesTest(unittest.TestCase):
    def assert_none(self, plan, state, goal, value):
        self.assertIs(is_shortest(plan, state, goal, value), False, value)
        with self.assertRaises(InvalidClicksError, msg=value):
            shortest_rank(plan, state, goal, value)

    def test_lists_with_one_click_changed_left_out_or_added(self):
        for plan, state, goal in ((P, F, G), (P, A, B), (P, G, F), (P, F, F)):
            lists = all_shortest(plan, state, goal)
            for clicks in lists:
                for place in range(len(clicks) + 1):
                    before, behind = clicks[:place], clicks[place + 1:]
                    changed = [before + behind] if place < len(clicks) else []
                    for section in range(-1, len(plan) + 1):
                        changed.append(before + [section] + behind)
                        changed.append(before + [section] + clicks[place:])
                    for value in changed:
                        if value in lists:
                            self.assertIs(is_shortest(plan, state, goal, value), True)
                        else:
                            self.assert_none(plan, state, goal, value)

    def test_all_lists_of_the_same_length(self):
        plan = [(0, "tab"), (1, O), (2, O), (1, "step"), (2, O), (2, O)]
        state, goal = [1, 0, 0, 4, 0, 0], [1, 2, 0, 5, 0, 0]
        rows = [[]]
        for _ in range(distance(plan, state, goal)):
            rows = [row + [section] for row in rows for section in range(6)]
        lists = [row for row in rows if is_shortest(plan, state, goal, row)]
        self.assertEqual(lists, [[2, 3, 5, 1], [3, 5, 1, 2]])
        self.assertEqual(lists, all_shortest(plan, state, goal))

    def test_lists_that_lead_there_but_not_the_shortest_way(self):
        for clicks in ([4, 6, 7, 9, 10, 1, 3, 3, 3], [1, 3, 4, 6, 7, 9, 10, 1], [4, 6, 6, 7, 9, 10, 1, 3]):
            self.assertEqual(after_clicks(P, F, *clicks), G)
            self.assert_none(P, F, G, clicks)

    def test_lists_with_a_hidden_header(self):
        for clicks in ([6, 4, 7, 9, 10, 1, 3], [4, 6, 7, 10, 9, 1, 3], [4, 6, 7, 9, 10, 3, 1], [1, 3, 6, 4, 7, 9, 10]):
            self.assertIsNotNone(first_hidden(P, F, clicks))
            self.assert_none(P, F, G, clicks)

    def test_values_of_other_kinds(self):
        right = [4, 6, 7, 9, 10, 1, 3]
        values = other_kinds() + [tuple(right), SubList(right), SubTuple(right), iter(right), dict.fromkeys(right),
                                  right[0], "".join(map(str, right)), [right], [tuple(right)], right * 50]
        for value in values:
            self.assert_none(P, F, G, value)
        for value in other_kinds():
            self.assert_none(P, F, F, value)
        for place in range(len(right)):
            for wrong in [0] + wrong_sections(P):
                self.assert_none(P, F, G, right[:place] + [wrong] + right[place + 1:])

    def test_bools_are_no_clicks(self):
        plan = [(0, "tab"), (1, O), (1, O)]
        self.assertIs(is_shortest(plan, [2, 0, 0], [1, 0, 0], [1]), True)
        self.assert_none(plan, [2, 0, 0], [1, 0, 0], [True])
        self.assert_none(plan, [2, 0, 0], [1, 0, 0], [1.0])
        self.assert_none(plan, [2, 0, 0], [1, 0, 0], [Agreeable()])

    def test_very_long_lists(self):
        for value in ([1] * 300, [1] * 301, [1] * 400):
            self.assert_none(P, F, F, value)


class WrongArgumentsTest(unittest.TestCase):
    def test_wrong_index(self):
        for plan, state, goal in ((P, F, G), (P, F, F), (PAGE, [0], [0]), (MIXED, first_state(MIXED),
                                                                        nth_state(MIXED, 10 ** 5))):
            many = count_shortest(plan, state, goal)
            for index in [-1, -many, many, many + 1, 10 ** 79, -10 ** 79, [0], []] + other_kinds():
                with self.assertRaises(InvalidNumberError, msg=index):
                    nth_shortest(plan, state, goal, index)

    def test_wrong_plans(self):
        for plan in wrong_plans():
            for call in INDEXED:
                with self.assertRaises(InvalidPlanError, msg=plan):
                    call(plan, F, G)

    def test_wrong_states_and_goals(self):
        wrong = other_kinds() + [[], F[:-1], F + [0], [2] + F[1:], [True] + F[1:], tuple(F), SubList(F),
                                 [Agreeable()] + F[1:], first_state(CHAIN)]
        for value in wrong:
            for call in INDEXED:
                for arguments in ((value, F), (F, value)):
                    with self.assertRaises(InvalidStateError, msg=value):
                        call(P, *arguments)


if __name__ == "__main__":
    unittest.main()
