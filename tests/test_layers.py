"""Point 17: the numbers of states at each distance, the farthest ones and their order."""

import unittest
from math import comb

from accordions.distances import distance, greatest_distance
from accordions.errors import InvalidNumberError, InvalidPlanError, InvalidStateError
from accordions.layers import farthest, nth_at, numbers_by_distance, rank_at
from accordions.states import count_states, first_state, nth_state
from tests import definitions, searches
from tests.examples import (CHAIN, CHAINS, F, G, KINDS, LARGE_PLANS, MIXED, O, ONES, P, PAGE, PAIRS, STEPS, TABS,
                            Agreeable, SubList, SubTuple, other_kinds, small_shapes, typical_plans, wrong_plans)


def layers(plan, state):
    """For each distance the list of the states with it, from a search."""
    found = searches.distances(searches.graph(plan), state)
    rows = [[] for _ in range(max(found.values()) + 1)]
    for other in sorted(found):
        rows[found[other]].append(list(other))
    return rows


class LayersTest(unittest.TestCase):
    def assert_layers(self, plan, state):
        rows = layers(plan, state)
        numbers = [len(row) for row in rows]
        self.assertEqual(numbers_by_distance(plan, state), numbers, (plan, state))
        self.assertEqual(farthest(plan, state), (len(rows) - 1, numbers[-1]))
        self.assertEqual(sum(numbers), count_states(plan))
        for count, row in enumerate(rows):
            self.assertEqual([nth_at(plan, state, count, index) for index in range(len(row))], row)
            self.assertEqual([rank_at(plan, state, other) for other in row], list(range(len(row))))

    def test_examples(self):
        self.assertEqual(numbers_by_distance(P, F), [1, 3, 4, 13, 13, 16, 12, 8, 2])
        self.assertEqual(farthest(P, F), (8, 2))
        self.assertEqual(nth_at(P, F, 8, 1), [0, 3, 0, 0, 6, 0, 0, 10, 0, 0, 0])
        self.assertEqual(rank_at(P, F, F), 0)

    def test_all_states_of_small_plans(self):
        for plan in small_shapes(5):
            for state in definitions.states(plan):
                self.assert_layers(plan, state)

    def test_typical_plans(self):
        for plan in typical_plans():
            states = definitions.states(plan)
            for state in [states[0], states[len(states) // 2], states[-1]]:
                self.assert_layers(plan, state)

    def test_page_alone(self):
        for kind in KINDS:
            plan = [(0, kind)]
            self.assertEqual([numbers_by_distance(plan, [0]), farthest(plan, [0])], [[1], (0, 1)])
            self.assertEqual([nth_at(plan, [0], 0, 0), rank_at(plan, [0], [0])], [[0], 0])

    def test_only_state(self):
        plan = [(0, "tab"), (1, "step"), (2, O)]
        self.assertEqual([numbers_by_distance(plan, [1, 2, 0]), farthest(plan, [1, 2, 0])], [[1], (0, 1)])
        self.assertEqual(nth_at(plan, [1, 2, 0], 0, 0), [1, 2, 0])

    def test_each_kind_of_group(self):
        for kind, numbers in (("one", [1, 4]), ("tab", [1, 3]), ("step", [1, 2, 1])):
            plan = [(0, kind), (1, O), (1, O), (1, O), (1, O)]
            self.assertEqual(numbers_by_distance(plan, [2, 0, 0, 0, 0]), numbers)

    def test_greatest_layer_of_all_states(self):
        for plan in [*small_shapes(4), P]:
            found = [farthest(plan, state)[0] for state in definitions.states(plan)]
            self.assertEqual(max(found), greatest_distance(plan))

    def test_nothing_between_is_missing(self):
        # Each shortest list comes through all smaller distances.
        for plan in (*LARGE_PLANS, *CHAINS, *PAIRS):
            self.assertNotIn(0, numbers_by_distance(plan, nth_state(plan, count_states(plan) // 2)))


class LargeTest(unittest.TestCase):
    def test_one_group_of_thirty_nine(self):
        self.assertEqual(numbers_by_distance(TABS, [7] + [0] * 39), [1, 38])
        self.assertEqual(numbers_by_distance(ONES, [7] + [0] * 39), [1, 39])
        self.assertEqual(numbers_by_distance(STEPS, [1] + [0] * 39), [1] * 39)
        self.assertEqual(numbers_by_distance(STEPS, [20] + [0] * 39), [1] + [2] * 19)
        self.assertEqual([nth_at(STEPS, [20] + [0] * 39, 19, index)[0] for index in (0, 1)], [1, 39])
        self.assertEqual(rank_at(STEPS, [20] + [0] * 39, [39] + [0] * 39), 1)
        self.assertEqual([nth_at(ONES, [7] + [0] * 39, 1, index)[0] for index in (0, 6, 7, 38)], [0, 6, 8, 39])

    def test_deep_chain(self):
        chain, tabs, steps = CHAINS
        numbers = numbers_by_distance(chain, [0] * 40)
        self.assertEqual([sum(numbers), numbers[:4], farthest(chain, [0] * 40)], [2 ** 39, [1, 1, 1, 2], (77, 1)])
        self.assertEqual(nth_at(chain, [0] * 40, 77, 0), [0] * 38 + [39, 0])
        for plan in (tabs, steps):
            self.assertEqual(numbers_by_distance(plan, first_state(plan)), [1])

    def test_numbers_add_up_and_indices_come_back(self):
        for plan in (*LARGE_PLANS, *CHAINS, *PAIRS):
            total = count_states(plan)
            for state in (first_state(plan), nth_state(plan, total // 2), nth_state(plan, total - 1)):
                numbers = numbers_by_distance(plan, state)
                self.assertEqual(sum(numbers), total)
                self.assertEqual(farthest(plan, state), (len(numbers) - 1, numbers[-1]))
                for count in sorted({0, 1, len(numbers) // 2, len(numbers) - 1} & set(range(len(numbers)))):
                    self.assert_indices(plan, state, count, numbers[count])

    def assert_indices(self, plan, state, count, many):
        found = []
        for index in sorted({0, many // 3, many - 1}):
            other = nth_at(plan, state, count, index)
            self.assertEqual(distance(plan, state, other), count)
            self.assertEqual(rank_at(plan, state, other), index)
            found.append(other)
        self.assertEqual(found, sorted(found))

    def test_numbers_of_groups_with_one_section_in_each(self):
        # Section 39 is open, and k of the 19 sections beside it need work: k clicks within them, and
        # k clicks if one of them is open at the end, k + 1 if one of the other 20 - k sections is.
        one, tab, step = PAIRS
        numbers = [0] * 40
        for k in range(1, 20):
            numbers[2 * k] = comb(19, k) * k
            numbers[2 * k + 1] = comb(19, k) * (20 - k)
        numbers[:2] = [1, 19]
        self.assertEqual(numbers_by_distance(tab, [39] + [0] * 39), numbers)
        self.assertEqual(sum(numbers), 20 * 2 ** 19)
        self.assertEqual(sum(numbers_by_distance(one, [0] * 40)), 21 * 2 ** 19)
        # All 19 sections need work, and the way there and back is made.
        self.assertEqual(farthest(step, [39] + [0] * 39), (57, 1))


class WrongArgumentsTest(unittest.TestCase):
    def test_distance_that_no_state_has(self):
        for plan, state in ((P, F), (P, G), (PAGE, [0]), (STEPS, [1] + [0] * 39), (MIXED, first_state(MIXED))):
            greatest, _ = farthest(plan, state)
            for count in (greatest + 1, greatest + 2, 10 ** 30):
                for index in (0, 1, -1, 10 ** 79):
                    with self.assertRaises(InvalidNumberError, msg=count):
                        nth_at(plan, state, count, index)

    def test_wrong_count(self):
        for plan, state in ((P, F), (PAGE, [0])):
            for count in [-1, -10 ** 30, [0], []] + other_kinds():
                with self.assertRaises(InvalidNumberError, msg=count):
                    nth_at(plan, state, count, 0)

    def test_wrong_index(self):
        for count, many in enumerate(numbers_by_distance(P, F)):
            for index in [-1, -many, many, many + 1, 10 ** 79, -10 ** 79, [0], []] + other_kinds():
                with self.assertRaises(InvalidNumberError, msg=index):
                    nth_at(P, F, count, index)

    def test_wrong_plans(self):
        for plan in wrong_plans():
            for call in (lambda: numbers_by_distance(plan, F), lambda: farthest(plan, F),
                         lambda: nth_at(plan, F, 0, 0), lambda: rank_at(plan, F, G)):
                with self.assertRaises(InvalidPlanError, msg=plan):
                    call()

    def test_wrong_states(self):
        wrong = other_kinds() + [[], F[:-1], F + [0], [2] + F[1:], [True] + F[1:], tuple(F), SubList(F), SubTuple(F),
                                 [Agreeable()] + F[1:], first_state(CHAIN), [-1] + F[1:]]
        for value in wrong:
            for call in (lambda: numbers_by_distance(P, value), lambda: farthest(P, value),
                         lambda: nth_at(P, value, 0, 0), lambda: rank_at(P, value, G), lambda: rank_at(P, F, value)):
                with self.assertRaises(InvalidStateError, msg=value):
                    call()

    def test_kinds_of_results(self):
        self.assertIs(type(farthest(P, F)), tuple)
        self.assertEqual([type(item) for item in farthest(P, F)], [int, int])
        for row in (numbers_by_distance(P, F), nth_at(P, F, 3, 5)):
            self.assertIs(type(row), list)
            self.assertEqual([type(item) for item in row], [int] * len(row))
        self.assertIs(type(rank_at(P, F, G)), int)


if __name__ == "__main__":
    unittest.main()
