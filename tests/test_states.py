"""Points 7 and 12: states."""

import unittest

from accordions.errors import InvalidNumberError, InvalidPlanError, InvalidStateError
from accordions.states import (count_states, first_state, is_state, nth_state, shown_sections, state_rank,
                               visible_headers)
from tests import definitions
from tests.examples import (CHAIN, F, G, LARGE_PLANS, MIXED, O, ONES, P, PAGE, STEPS, TABS, Agreeable, SubList,
                            SubTuple, other_kinds, small_plans, typical_plans, wrong_plans)


def wrong_states(plan):
    """Values that are no state of the plan, of the kind of a state or not."""
    state = first_state(plan)
    wrong = other_kinds() + [[], state[:-1], state + [0], tuple(state), SubTuple(state), SubList(state), iter(state)]
    for place in range(len(plan)):
        for setting in (-1, len(plan), 10 ** 30, True, False, None, "0", 0.0, [0], (0,), Agreeable()):
            wrong.append(state[:place] + [setting] + state[place + 1:])
    return wrong


class IsStateTest(unittest.TestCase):
    def test_examples(self):
        for state in (F, G):
            self.assertIs(is_state(P, state), True)

    def test_all_lists_of_small_plans(self):
        for plan in small_plans(3):
            numbers = range(-1, len(plan) + 1)
            rows = [[]]
            for _ in plan:
                rows = [row + [setting] for row in rows for setting in numbers]
            for row in rows:
                self.assertIs(is_state(plan, row), definitions.is_state(plan, row), (plan, row))

    def test_each_kind_of_group(self):
        for kind, closed in (("one", True), ("tab", False), ("step", False)):
            plan = [(0, kind), (1, O), (1, O), (2, O)]
            self.assertIs(is_state(plan, [0, 0, 0, 0]), closed)
            self.assertIs(is_state(plan, [1, 0, 0, 0]), True)
            self.assertIs(is_state(plan, [2, 0, 3, 0]), True)

    def test_empty_groups(self):
        for kind in ("one", "tab", "step"):
            plan = [(0, "tab"), (1, kind)]
            self.assertIs(is_state([(0, kind)], [0]), True)
            self.assertIs(is_state([(0, kind)], [1]), False)
            self.assertIs(is_state(plan, [1, 0]), True)
            self.assertIs(is_state(plan, [1, 1]), False)

    def test_setting_from_another_group(self):
        for place, setting in ((0, 2), (0, 5), (1, 4), (1, 5), (1, 1), (4, 2), (4, 8), (7, 5), (2, 3), (8, 9)):
            for state in (F, G):
                self.assertIs(is_state(P, state[:place] + [setting] + state[place + 1:]), False)

    def test_wrong_values(self):
        for plan in (P, PAGE, [(0, "tab"), (1, O)], CHAIN):
            for value in wrong_states(plan):
                self.assertIs(is_state(plan, value), False, value)

    def test_bool_in_place_of_a_setting(self):
        self.assertIs(is_state(P, [True] + G[1:]), False)
        self.assertIs(is_state(P, [False] + F[1:]), False)
        self.assertIs(is_state([(0, "tab"), (1, O)], [True, 0]), False)
        self.assertIs(is_state([(0, "tab"), (1, O)], [1, False]), False)

    def test_length(self):
        self.assertIs(is_state(P, F[:-1]), False)
        self.assertIs(is_state(P, F + [0]), False)
        self.assertIs(is_state(P, []), False)

    def test_wrong_plans(self):
        for plan in wrong_plans():
            with self.assertRaises(InvalidPlanError):
                is_state(plan, [0])


class CountingTest(unittest.TestCase):
    def test_examples(self):
        self.assertEqual(first_state(P), F)
        self.assertEqual([count_states(P), state_rank(P, G), nth_state(P, 35)], [72, 35, G])

    def test_all_states_in_list_order(self):
        for plan in [*small_plans(4), *typical_plans()]:
            states = definitions.states(plan)
            self.assertEqual(states, sorted(states))
            self.assertEqual(count_states(plan), len(states))
            self.assertEqual(first_state(plan), states[0])
            self.assertEqual([nth_state(plan, index) for index in range(len(states))], states)
            self.assertEqual([state_rank(plan, state) for state in states], list(range(len(states))))

    def test_page_alone(self):
        for kind in ("one", "tab", "step"):
            plan = [(0, kind)]
            self.assertEqual([first_state(plan), count_states(plan), nth_state(plan, 0)], [[0], 1, [0]])
            self.assertEqual(state_rank(plan, [0]), 0)

    def test_counts_of_forty_sections(self):
        self.assertEqual([count_states(plan) for plan in (ONES, TABS, STEPS)], [40, 39, 39])
        # The chain's groups have one section each, 13 of them in a "one" group.
        self.assertEqual(count_states(CHAIN), 2 ** 13)
        self.assertEqual(count_states([(depth, O) for depth in range(40)]), 2 ** 39)
        # 13 groups of two, 5 of them with a setting 0, beside one group of 13 tabs.
        self.assertEqual(count_states(MIXED), 13 * 3 ** 5 * 2 ** 8)
        pairs = [(0, O)] + [(1, O), (2, O), (2, O)] * 13
        self.assertEqual(count_states(pairs), 14 * 3 ** 13)

    def test_first_and_last_of_forty_sections(self):
        for plan in LARGE_PLANS + ([(depth, O) for depth in range(40)],):
            last = count_states(plan) - 1
            greatest = [max([0] + definitions.group(plan, section)) for section in range(40)]
            self.assertEqual([nth_state(plan, 0), nth_state(plan, last)], [first_state(plan), greatest])
            self.assertEqual([state_rank(plan, first_state(plan)), state_rank(plan, greatest)], [0, last])
            for index in (1, last // 3, last // 2, last - 1):
                state = nth_state(plan, index)
                self.assertIs(is_state(plan, state), True)
                self.assertEqual(state_rank(plan, state), index)
                self.assertLess(nth_state(plan, index - 1), state)

    def test_index_out_of_range(self):
        for plan in (P, PAGE, CHAIN):
            many = count_states(plan)
            for index in [-1, -many, many, many + 1, 10 ** 79, -10 ** 79, [0], [], SubList([0])] + other_kinds():
                with self.assertRaises(InvalidNumberError, msg=index):
                    nth_state(plan, index)

    def test_wrong_states(self):
        for plan in (P, PAGE, [(0, "step"), (1, O), (1, O)]):
            for state in wrong_states(plan):
                for function in (state_rank, shown_sections, visible_headers):
                    with self.assertRaises(InvalidStateError, msg=state):
                        function(plan, state)

    def test_wrong_plans(self):
        for plan in wrong_plans():
            for function in (first_state, count_states):
                with self.assertRaises(InvalidPlanError):
                    function(plan)
            for function in (nth_state, state_rank, shown_sections, visible_headers):
                for second in (0, [0], None):
                    with self.assertRaises(InvalidPlanError):
                        function(plan, second)


class ShownTest(unittest.TestCase):
    def test_examples(self):
        self.assertEqual([shown_sections(P, G), visible_headers(P, G)], [[0, 1, 3], [1, 2, 3, 4, 7]])
        self.assertEqual(visible_headers(P, [7, 0, 0, 0, 5, 0, 0, 8, 0, 0, 0]), [1, 4, 7, 8, 9])

    def test_page_is_shown_and_has_no_header(self):
        for kind in ("one", "tab", "step"):
            self.assertEqual(shown_sections([(0, kind)], [0]), [0])
            self.assertEqual(visible_headers([(0, kind)], [0]), [])

    def test_definitions(self):
        for plan in [*small_plans(4), *typical_plans()]:
            for state in definitions.states(plan):
                sections = range(len(plan))
                shown = [section for section in sections if definitions.is_shown(plan, state, section)]
                headers = [section for section in sections if definitions.is_visible(plan, state, section)]
                self.assertEqual(shown_sections(plan, state), shown)
                self.assertEqual(visible_headers(plan, state), headers)

    def test_closed_sections_around_open_ones(self):
        plan = [(0, O), (1, O), (2, O), (3, O), (3, O)]
        self.assertEqual([shown_sections(plan, [0, 2, 3, 0, 0]), visible_headers(plan, [0, 2, 3, 0, 0])], [[0], [1]])
        self.assertEqual(shown_sections(plan, [1, 0, 3, 0, 0]), [0, 1])
        self.assertEqual(visible_headers(plan, [1, 0, 3, 0, 0]), [1, 2])
        self.assertEqual(shown_sections(plan, [1, 2, 3, 0, 0]), [0, 1, 2, 3])
        self.assertEqual(visible_headers(plan, [1, 2, 3, 0, 0]), [1, 2, 3, 4])

    def test_first_middle_and_last_step(self):
        for size in (1, 2, 3, 5, 39):
            plan = [(0, "step")] + [(1, O)] * size
            for section in range(1, size + 1):
                near = [other for other in (section - 1, section, section + 1) if 1 <= other <= size]
                self.assertEqual(visible_headers(plan, [section] + [0] * size), near)
                self.assertEqual(shown_sections(plan, [section] + [0] * size), [0, section])

    def test_steps_with_sections_between_them(self):
        plan = [(0, "step"), (1, O), (2, O), (1, "tab"), (2, O), (2, O), (1, O), (1, O)]
        self.assertEqual(visible_headers(plan, [3, 2, 0, 4, 0, 0, 0, 0]), [1, 3, 4, 5, 6])
        self.assertEqual(visible_headers(plan, [1, 0, 0, 5, 0, 0, 0, 0]), [1, 2, 3])
        self.assertEqual(visible_headers(plan, [7, 2, 0, 5, 0, 0, 0, 0]), [6, 7])


if __name__ == "__main__":
    unittest.main()
