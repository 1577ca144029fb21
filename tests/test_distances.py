"""Points 2, 9 and 14: distances, walks, sections that need work and nearer clicks."""

import unittest

from accordions.clicks import after_clicks
from accordions.distances import distance, greatest_distance, nearer_clicks, walks, working_sections
from accordions.errors import InvalidPlanError, InvalidStateError
from accordions.states import count_states, first_state, nth_state
from tests import definitions, searches
from tests.examples import (CHAIN, CHAINS, F, G, KINDS, LARGE_PLANS, MIXED, O, ONES, P, PAGE, PAIRS, STEPS, TABS,
                            Agreeable, SubList, other_kinds, small_shapes, typical_plans, wrong_plans)

TWO_STATES = (distance, walks, working_sections, nearer_clicks)


def some_pairs(plan):
    """Some pairs of states of a plan that has very many."""
    many = count_states(plan)
    states = [nth_state(plan, index) for index in sorted({0, many // 5, many // 3, many // 2, many - 1})]
    return [(state, goal) for state in states for goal in states]


class DistanceTest(unittest.TestCase):
    def test_examples(self):
        self.assertEqual([distance(P, F, G), distance(P, G, F), greatest_distance(P)], [7, 7, 8])
        self.assertEqual(walks(P, F, G), [(0, 3), (1, 1), (4, 1), (7, 2)])
        self.assertEqual(working_sections(P, F, G), [0, 1, 4, 7])
        self.assertEqual([nearer_clicks(P, F, G), nearer_clicks(P, G, F)], [[4, 7], [3]])

    def test_search_over_all_states(self):
        for plan in [*small_shapes(5), *typical_plans()]:
            moves = searches.graph(plan)
            found = {state: searches.distances(moves, state) for state in moves}
            self.assertEqual(greatest_distance(plan), max(max(row.values()) for row in found.values()), plan)
            for state in moves:
                for goal in moves:
                    self.assertEqual(distance(plan, list(state), list(goal)), found[state][goal], (plan, state, goal))
                    # The way back takes as many clicks.
                    self.assertEqual(found[state][goal], found[goal][state])

    def test_nearer_clicks_of_all_states(self):
        for plan in [*small_shapes(4), *list(typical_plans())[1:]]:
            moves = searches.graph(plan)
            for goal in moves:
                found = searches.distances(moves, goal)
                for state in moves:
                    nearer = [section for section, after in moves[state] if found[after] < found[state]]
                    self.assertEqual(nearer_clicks(plan, list(state), list(goal)), nearer, (plan, state, goal))
                    self.assertEqual(not nearer, state == goal)

    def assert_parts(self, plan, state, goal):
        """Walks and sections that need work are as the document defines them, and the walks add up."""
        sections = range(len(plan))
        lengths = [(section, definitions.walk(plan, state, goal, section)) for section in sections]
        self.assertEqual(walks(plan, state, goal), [row for row in lengths if row[1] != 0])
        work = [section for section in sections if definitions.needs_work(plan, state, goal, section)]
        self.assertEqual(working_sections(plan, state, goal), work)
        self.assertEqual(distance(plan, state, goal), sum(length for _, length in lengths))
        self.assertEqual(distance(plan, goal, state), distance(plan, state, goal))

    def test_definitions_in_small_plans(self):
        for plan in small_shapes(4):
            for state in definitions.states(plan):
                for goal in definitions.states(plan):
                    self.assert_parts(plan, state, goal)

    def test_definitions_in_plans_of_forty_sections(self):
        for plan in (*LARGE_PLANS, *CHAINS, *PAIRS):
            for state, goal in some_pairs(plan)[::2]:
                self.assert_parts(plan, state, goal)

    def test_lists_of_nearer_clicks_lead_to_the_goal_in_large_plans(self):
        for plan in (*LARGE_PLANS, *CHAINS, *PAIRS):
            for state, goal in some_pairs(plan)[1::6]:
                here = state
                for left in range(distance(plan, state, goal), 0, -1):
                    self.assertEqual(distance(plan, here, goal), left)
                    nearer = nearer_clicks(plan, here, goal)
                    here = after_clicks(plan, here, nearer[left % len(nearer)])
                self.assertEqual(here, goal)

    def test_equal_states(self):
        for plan in (P, PAGE, *LARGE_PLANS, *CHAINS):
            for state in (first_state(plan), nth_state(plan, count_states(plan) - 1)):
                self.assertEqual([distance(plan, state, list(state)), walks(plan, state, list(state))], [0, []])
                self.assertEqual(working_sections(plan, state, list(state)), [])
                self.assertEqual(nearer_clicks(plan, state, list(state)), [])

    def test_page_alone(self):
        for kind in KINDS:
            plan = [(0, kind)]
            self.assertEqual([distance(plan, [0], [0]), greatest_distance(plan)], [0, 0])
            self.assertEqual([walks(plan, [0], [0]), working_sections(plan, [0], [0])], [[], []])
            self.assertEqual(nearer_clicks(plan, [0], [0]), [])


class WalkTest(unittest.TestCase):
    """Each case of a walk, with hand-made plans: five sections with one section in each."""

    def plan_and_states(self, kind, before, after, work):
        """Sections 1, 3, 5, 7 and 9 are the page's; these places of them need work."""
        plan = [(0, kind)] + [(1 + k % 2, O) for k in range(10)]
        state = [2 * before + 1 if before is not None else 0] + [0] * 10
        goal = [2 * after + 1 if after is not None else 0] + [0] * 10
        for place in work:
            goal[2 * place + 1] = 2 * place + 2
        return plan, state, goal

    def assert_walk(self, kind, before, after, work, length):
        plan, state, goal = self.plan_and_states(kind, before, after, work)
        for first, second in ((state, goal), (goal, state)):
            found = dict(walks(plan, first, second))
            self.assertEqual(found.get(0, 0), length, (kind, before, after, work))
            self.assertEqual(distance(plan, first, second), length + len(work))
            outer = [0] if length or work else []
            self.assertEqual(working_sections(plan, first, second), outer + [2 * place + 1 for place in work])

    def test_open_sections(self):
        for kind in ("one", "tab"):
            for before, after, work, length in (
                    (0, 0, [], 0), (0, 1, [], 1), (0, 0, [0], 0), (0, 0, [1], 2), (0, 0, [0, 1], 2),
                    (0, 0, [1, 3, 4], 4), (0, 1, [0], 1), (0, 1, [1], 1), (0, 1, [0, 1], 1), (0, 1, [2], 2),
                    (0, 1, [0, 1, 2, 3, 4], 4), (4, 2, [0, 1], 3)):
                self.assert_walk(kind, before, after, work, length)

    def test_nothing_open(self):
        for before, after, work, length in (
                (None, None, [], 0), (None, None, [2], 2), (None, None, [0, 1, 2, 3, 4], 6), (None, 3, [], 1),
                (None, 3, [3], 1), (None, 3, [0], 2), (2, None, [2], 1), (2, None, [0, 2], 2), (2, None, [], 1)):
            self.assert_walk("one", before, after, work, length)

    def test_steps(self):
        for before, after, work, length in (
                (2, 2, [], 0), (2, 2, [2], 0), (1, 3, [], 2), (1, 3, [2], 2), (1, 3, [0], 4), (1, 3, [4], 4),
                (1, 3, [0, 4], 6), (3, 1, [0, 4], 6), (2, 2, [0], 4), (2, 2, [0, 4], 8), (2, 2, [1, 3], 4),
                (0, 0, [4], 8), (4, 4, [0, 2, 4], 8), (0, 4, [0, 1, 2, 3, 4], 4), (0, 1, [3], 5), (3, 4, [1], 5)):
            self.assert_walk("step", before, after, work, length)

    def test_nearer_clicks_of_each_kind(self):
        for kind, before, after, work, sections in (
                ("one", 0, 0, [0], [2]), ("one", 0, 0, [1, 4], [3, 9]), ("one", 0, 0, [0, 1], [2, 3]),
                ("one", 0, 3, [], [7]), ("one", 0, 3, [3], [7]), ("one", 0, 3, [1], [3]), ("one", None, None, [2], [5]),
                ("one", 2, None, [], [5]), ("one", 2, None, [2], [6]), ("one", 2, None, [3], [7]),
                ("tab", 0, 0, [1, 4], [3, 9]), ("tab", 0, 3, [0], [2]), ("tab", 4, 2, [0, 1], [1, 3]),
                ("step", 2, 2, [0, 4], [3, 7]), ("step", 2, 2, [0, 2, 4], [3, 6, 7]), ("step", 1, 3, [0], [1]),
                ("step", 1, 3, [4], [5]), ("step", 3, 1, [0], [5]), ("step", 0, 4, [0], [2]), ("step", 4, 4, [0], [7])):
            plan, state, goal = self.plan_and_states(kind, before, after, work)
            self.assertEqual(nearer_clicks(plan, state, goal), sections, (kind, before, after, work))

    def test_closed_sections_must_be_opened_first(self):
        plan = [(0, O), (1, O), (2, O), (3, O), (4, O)]
        state, goal = [0, 0, 0, 0, 0], [0, 0, 0, 4, 0]
        self.assertEqual(walks(plan, state, goal), [(0, 2), (1, 2), (2, 2), (3, 1)])
        self.assertEqual(working_sections(plan, state, goal), [0, 1, 2, 3])
        self.assertEqual([distance(plan, state, goal), nearer_clicks(plan, state, goal)], [7, [1]])

    def test_sections_beside_that_need_no_work(self):
        plan = [(0, "tab"), (1, "tab"), (2, O), (2, O), (1, "step"), (2, O), (2, O)]
        state, goal = [1, 2, 0, 0, 5, 0, 0], [1, 2, 0, 0, 6, 0, 0]
        self.assertEqual(walks(plan, state, goal), [(0, 2), (4, 1)])
        self.assertEqual(working_sections(plan, state, goal), [0, 4])


class LargeTest(unittest.TestCase):
    def test_one_group_of_thirty_nine(self):
        for plan, length in ((STEPS, 38), (TABS, 1), (ONES, 1)):
            state, goal = [1] + [0] * 39, [39] + [0] * 39
            self.assertEqual([distance(plan, state, goal), distance(plan, goal, state)], [length, length])
            self.assertEqual(greatest_distance(plan), length)
        self.assertEqual([distance(ONES, [0] * 40, [7] + [0] * 39), distance(ONES, [7] + [0] * 39, [0] * 40)], [1, 1])
        self.assertEqual(nearer_clicks(STEPS, [20] + [0] * 39, [1] + [0] * 39), [19])
        self.assertEqual(nearer_clicks(STEPS, [20] + [0] * 39, [39] + [0] * 39), [21])

    def test_deep_chains(self):
        chain, tabs, steps = CHAINS
        last = [0] * 38 + [39, 0]
        # All 38 sections around are opened and closed again, and one click is made within them.
        self.assertEqual([distance(chain, [0] * 40, last), distance(chain, last, [0] * 40)], [77, 77])
        self.assertEqual(walks(chain, [0] * 40, last), [(section, 2) for section in range(38)] + [(38, 1)])
        opened = [section + 1 for section in range(39)] + [0]
        self.assertEqual(distance(chain, [0] * 40, opened), 39)
        self.assertEqual(nearer_clicks(chain, [0] * 40, opened), [1])
        self.assertEqual(nearer_clicks(chain, opened, [0] * 40), [39])
        self.assertEqual([greatest_distance(plan) for plan in (chain, tabs, steps)], [77, 0, 0])
        self.assertEqual(greatest_distance(CHAIN), 25)

    def test_pairs(self):
        # All 19 inner sections are changed, and the outer group is where it was.
        one, tab, step = PAIRS
        goal = [0] + [k + 1 if k % 2 and k < 38 else 0 for k in range(1, 40)]
        self.assertEqual(distance(one, [0] * 40, goal), 39)
        self.assertEqual([greatest_distance(plan) for plan in PAIRS], [39, 39, 57])
        self.assertEqual(distance(tab, [39] + [0] * 39, [39] + goal[1:]), 39)
        self.assertEqual(distance(step, [39] + [0] * 39, [39] + goal[1:]), 57)
        self.assertEqual(distance(step, [1] + [0] * 39, [39] + goal[1:]), 38)

    def test_mixed_plan(self):
        state, goal = first_state(MIXED), nth_state(MIXED, count_states(MIXED) - 1)
        self.assertEqual([distance(MIXED, state, goal), distance(MIXED, goal, state)], [25, 25])
        self.assertEqual(walks(MIXED, state, goal), [(0, 12)] + [(section, 1) for section in range(1, 40, 3)])


class WrongArgumentsTest(unittest.TestCase):
    def test_wrong_plans(self):
        for plan in wrong_plans():
            for function in TWO_STATES:
                with self.assertRaises(InvalidPlanError, msg=(function, plan)):
                    function(plan, F, G)
            with self.assertRaises(InvalidPlanError, msg=plan):
                greatest_distance(plan)

    def test_wrong_states_and_goals(self):
        wrong = other_kinds() + [[], F[:-1], F + [0], [2] + F[1:], [True] + F[1:], tuple(F), SubList(F),
                                 [Agreeable()] + F[1:], first_state(MIXED), [-1] + F[1:], [10 ** 30] + F[1:]]
        for value in wrong:
            for function in TWO_STATES:
                for arguments in ((value, F), (F, value), (value, value)):
                    with self.assertRaises(InvalidStateError, msg=(function, value)):
                        function(P, *arguments)

    def test_states_of_another_plan(self):
        for function in TWO_STATES:
            for arguments in ((P, first_state(CHAIN), F), (P, F, first_state(CHAIN)), (TABS, [0] * 40, [1] + [0] * 39),
                              (TABS, [1] + [0] * 39, [0] * 40)):
                with self.assertRaises(InvalidStateError):
                    function(*arguments)


if __name__ == "__main__":
    unittest.main()
