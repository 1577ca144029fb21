"""Points 1 and 10: the overview, and the plan and the states of the examples."""

import unittest

from accordions.clicks import after_clicks, first_hidden, steps
from accordions.distances import distance
from accordions.effects import effect_of, nth_start
from accordions.layers import numbers_by_distance
from accordions.menu import ForgetfulMenu, Menu
from accordions.plans import around, group_of, is_plan
from accordions.shortest import count_shortest, nth_shortest
from accordions.states import count_states, is_state, nth_state, shown_sections, state_rank, visible_headers
from accordions.tours import fewest_to_show, nth_tour
from accordions.views import clicks_of, view_of
from tests.examples import F, G, P, small_plans


class OverviewTest(unittest.TestCase):
    def test_plan_of_the_examples(self):
        self.assertIs(is_plan(P), True)
        self.assertEqual([group_of(P, section) for section in (0, 1, 4, 7)], [[1, 4, 7], [2, 3], [5, 6], [8, 9, 10]])
        self.assertEqual([P[section][1] for section in (0, 1, 4, 7)], ["one", "one", "tab", "step"])

    def test_states_of_the_examples(self):
        self.assertEqual([is_state(P, F), is_state(P, G)], [True, True])
        self.assertEqual([shown_sections(P, F), shown_sections(P, G)], [[0], [0, 1, 3]])

    def test_click_opens_and_closes_the_open_section_beside(self):
        opened = after_clicks(P, F, 1)
        self.assertEqual(shown_sections(P, opened), [0, 1])
        self.assertEqual(shown_sections(P, after_clicks(P, opened, 7)), [0, 7, 8])

    def test_closed_section_remembers_what_is_open_in_it(self):
        inside = after_clicks(P, F, 7, 9)
        self.assertEqual(shown_sections(P, after_clicks(P, inside, 1)), [0, 1])
        self.assertEqual(shown_sections(P, after_clicks(P, inside, 1, 7)), [0, 7, 9])

    def test_header_needs_all_sections_around_it_open(self):
        for index in range(count_states(P)):
            state = nth_state(P, index)
            shown = shown_sections(P, state)
            for section in range(1, len(P)):
                closed = [outer for outer in around(P, section) if outer not in shown]
                if closed:
                    self.assertEqual(first_hidden(P, state, [section]), 0)
                    self.assertNotIn(section, visible_headers(P, state))

    def test_at_most_one_open_section_in_each_group(self):
        for plan in small_plans(4):
            for index in range(count_states(plan)):
                shown = shown_sections(plan, nth_state(plan, index))
                for section in range(len(plan)):
                    self.assertLessEqual(len([inner for inner in group_of(plan, section) if inner in shown]), 1)

    def test_states_are_counted_and_ordered(self):
        states = [nth_state(P, index) for index in range(count_states(P))]
        self.assertEqual(states, sorted(states))
        self.assertEqual([state_rank(P, state) for state in states], list(range(72)))

    def test_fewest_clicks_from_one_state_to_another(self):
        lists = [nth_shortest(P, F, G, index) for index in range(count_shortest(P, F, G))]
        self.assertEqual(lists, sorted(lists))
        for clicks in lists:
            self.assertEqual(len(clicks), distance(P, F, G))
            self.assertEqual(after_clicks(P, F, *clicks), G)

    def test_numbers_of_states_at_each_distance(self):
        found = [distance(P, F, nth_state(P, index)) for index in range(72)]
        self.assertEqual(numbers_by_distance(P, F), [found.count(clicks) for clicks in range(max(found) + 1)])

    def test_fewest_clicks_that_show_given_sections(self):
        tour = nth_tour(P, F, [2, 3, 10], 0)
        self.assertEqual(len(tour), fewest_to_show(P, F, [2, 3, 10]))
        seen = [section for state in steps(P, F, tour) for section in shown_sections(P, state)]
        self.assertLessEqual({2, 3, 10}, set(seen))

    def test_what_a_click_list_does_from_all_states_at_once(self):
        after = {section: dict(pairs) for section, pairs in effect_of(P, [7, 9])}
        for index in range(count_states(P)):
            state = nth_state(P, index)
            if first_hidden(P, state, [7, 9]) is None:
                self.assertEqual([after[section][state[section]] for section in (0, 1, 4, 7)],
                                 [after_clicks(P, state, 7, 9)[section] for section in (0, 1, 4, 7)])
            else:
                self.assertTrue(state[0] == 7)
        self.assertEqual(nth_start(P, [7, 9], 0), F)

    def test_what_can_be_read_from_views_of_a_menu(self):
        menu = Menu(P)
        views = [view_of(P, menu.state)]
        for section in (7, 9, 10, 1, 3, 4, 6):
            menu.click(section)
            views.append(view_of(P, menu.state))
        self.assertEqual(clicks_of(P, views), menu.pressed)

    def test_menus_that_are_clicked_one_by_one(self):
        for kind, inside in ((Menu, 10), (ForgetfulMenu, 8)):
            menu = kind(P)
            self.assertEqual([menu.click(7, 9, 10), menu.click(1), menu.click(7)], [[True] * 3, [True], [True]])
            self.assertEqual(menu.shown, [0, 7, inside])


if __name__ == "__main__":
    unittest.main()
