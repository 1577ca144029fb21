"""Points 1 and 10: the overview, and the plan and the states of the examples."""

import unittest

from accordions.clicks import after_clicks, first_hidden
from accordions.plans import around, group_of, is_plan
from accordions.states import count_states, is_state, nth_state, shown_sections, state_rank, visible_headers
from tests.examples import F, G, P, small_plans


class OverviewTest(unittest.TestCase):
    def test_plan_of_the_examples(self):
        self.assertIs(is_plan(P), True)
        self.assertEqual([group_of(P, section) for section in (0, 1, 4, 7)], [[1, 4, 7], [2, 3], [5, 6], [8, 9, 10]])
        self.assertEqual([P[section][1] for section in (0, 1, 4, 7)], ["one", "one", "tab", "step"])

    def test_states_of_the_examples(self):
        self.assertEqual([is_state(P, F), is_state(P, G)], [True, True])
        self.assertEqual([shown_sections(P, F), shown_sections(P, G)], [[0], [0, 1, 3]])

    def test_click_opens_and_closes_the_open_section_beside(self):
        opened = after_clicks(P, F, 1)
        self.assertEqual(shown_sections(P, opened), [0, 1])
        self.assertEqual(shown_sections(P, after_clicks(P, opened, 7)), [0, 7, 8])

    def test_closed_section_remembers_what_is_open_in_it(self):
        inside = after_clicks(P, F, 7, 9)
        self.assertEqual(shown_sections(P, after_clicks(P, inside, 1)), [0, 1])
        self.assertEqual(shown_sections(P, after_clicks(P, inside, 1, 7)), [0, 7, 9])

    def test_header_needs_all_sections_around_it_open(self):
        for index in range(count_states(P)):
            state = nth_state(P, index)
            shown = shown_sections(P, state)
            for section in range(1, len(P)):
                closed = [outer for outer in around(P, section) if outer not in shown]
                if closed:
                    self.assertEqual(first_hidden(P, state, [section]), 0)
                    self.assertNotIn(section, visible_headers(P, state))

    def test_at_most_one_open_section_in_each_group(self):
        for plan in small_plans(4):
            for index in range(count_states(plan)):
                shown = shown_sections(plan, nth_state(plan, index))
                for section in range(len(plan)):
                    self.assertLessEqual(len([inner for inner in group_of(plan, section) if inner in shown]), 1)

    def test_states_are_counted_and_ordered(self):
        states = [nth_state(P, index) for index in range(count_states(P))]
        self.assertEqual(states, sorted(states))
        self.assertEqual([state_rank(P, state) for state in states], list(range(72)))


if __name__ == "__main__":
    unittest.main()
