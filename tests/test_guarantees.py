"""Point 2: the four main guarantees, over all states of small plans of all kinds."""

import unittest
from itertools import product
from math import prod

from accordions.clicks import after_clicks, back_click, first_hidden
from accordions.distances import distance, walks
from accordions.effects import effect_of
from accordions.shortest import count_shortest, nth_shortest
from accordions.states import count_states, nth_state, visible_headers
from tests import definitions, searches
from tests.examples import KINDS, O, P, small_plans

# Each kind of group within each, with steps and more than one section beside the open one.
NESTED = [[(0, outer), (1, inner), (2, O), (2, O), (1, O), (2, O)] for outer, inner in product(KINDS, KINDS)]


def all_states(plan):
    return [nth_state(plan, index) for index in range(count_states(plan))]


class GuaranteeTest(unittest.TestCase):
    def plans(self):
        yield from small_plans(4)
        yield from NESTED

    def test_each_click_that_changes_a_state_is_undone_by_one_click(self):
        for plan in [*self.plans(), P]:
            for state in all_states(plan):
                for section in visible_headers(plan, state):
                    after = after_clicks(plan, state, section)
                    back = back_click(plan, state, section)
                    if after == state:
                        self.assertIsNone(back)
                    else:
                        self.assertEqual(after_clicks(plan, after, back), state, (plan, state, section))

    def test_fewest_clicks_are_the_sum_of_one_number_for_each_group(self):
        for plan in self.plans():
            moves = searches.graph(plan)
            found = {state: searches.distances(moves, state) for state in moves}
            for state in moves:
                for goal in moves:
                    fewest = found[state][goal]
                    self.assertEqual(fewest, found[goal][state])
                    self.assertEqual(distance(plan, list(state), list(goal)), fewest)
                    self.assertEqual(sum(walk for _, walk in walks(plan, list(state), list(goal))), fewest)
                    self.assertEqual(definitions.distance(plan, state, goal), fewest)

    def test_number_of_shortest_lists_is_a_product_over_all_groups(self):
        for plan in [*small_plans(3), *NESTED]:
            moves = searches.graph(plan)
            for place, state in enumerate(moves):
                for goal in list(moves)[place % 4::4]:
                    lists = searches.shortest_lists(moves, state, goal)
                    factors = [definitions.factor(plan, state, goal, section) for section in range(len(plan))]
                    self.assertEqual(len(lists), prod(factors), (plan, state, goal))
                    self.assertEqual(count_shortest(plan, list(state), list(goal)), len(lists))
                    self.assertEqual(nth_shortest(plan, list(state), list(goal), len(lists) - 1), lists[-1])

    def test_a_list_works_from_the_states_with_settings_in_certain_sets(self):
        for plan in [*small_plans(3), *NESTED]:
            states = all_states(plan)
            for clicks in product(range(1, len(plan)), repeat=2 if len(plan) > 3 else 3):
                pairs = {section: dict(row) for section, row in effect_of(plan, list(clicks))}
                for state in states:
                    works = first_hidden(plan, state, list(clicks)) is None
                    self.assertIs(works, all(state[section] in row for section, row in pairs.items()))
                    if works:
                        after = after_clicks(plan, state, *clicks)
                        self.assertEqual({section: after[section] for section in pairs},
                                         {section: row[state[section]] for section, row in pairs.items()})


if __name__ == "__main__":
    unittest.main()
