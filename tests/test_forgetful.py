"""Points 26 and 27: what forgetful menus forget, and what does not hold of them."""

import unittest

from accordions.clicks import after_clicks, back_click, first_hidden
from accordions.distances import distance
from accordions.menu import CountingMenu, ForgetfulCountingMenu, ForgetfulMenu, Menu
from accordions.states import first_state
from tests import definitions
from tests.examples import KINDS, O, P, small_plans, typical_plans

FORGETFUL = (ForgetfulMenu, ForgetfulCountingMenu)
REMEMBERING = (Menu, CountingMenu)


def reachable(kind, plan):
    """A menu for each state to which clicks lead, each found by fewest clicks."""
    found = {tuple(first_state(plan)): kind(plan)}
    layer = list(found.values())
    while layer:
        reached = []
        for menu in layer:
            for section in menu.visible:
                other = menu.twin()
                other.click(section)
                if tuple(other.state) not in found:
                    found[tuple(other.state)] = other
                    reached.append(other)
        layer = reached
    return list(found.values())


class ForgetfulTest(unittest.TestCase):
    def after(self, kind, plan, *clicks):
        menu = kind(plan)
        menu.click(*clicks)
        return menu.state

    def test_all_clicks_in_all_states_that_are_reached(self):
        for plan in [*small_plans(4), *typical_plans()]:
            for kind in FORGETFUL if len(plan) < 4 else FORGETFUL[:1]:
                for menu in reachable(kind, plan):
                    state = menu.state
                    self.assertEqual(menu.visible, [section for section in range(len(plan))
                                                    if definitions.is_visible(plan, state, section)])
                    for section in menu.visible:
                        other = menu.twin()
                        after = definitions.after_forgetful_click(plan, state, section)
                        self.assertEqual(other.tried(section), [after != state])
                        self.assertEqual([other.click(section), other.state], [[after != state], after])
                        other.undo()
                        self.assertEqual(other.state, state)

    def test_what_is_hidden_is_as_in_the_first_state(self):
        for plan in [*small_plans(4), *typical_plans()]:
            first = first_state(plan)
            for menu in reachable(ForgetfulMenu, plan):
                hidden = [section for section in range(len(plan)) if section not in menu.shown]
                self.assertEqual([menu.state[section] for section in hidden], [first[section] for section in hidden])

    def test_show_takes_the_list_for_a_menu_in_all_states_that_are_reached(self):
        for plan in [*small_plans(4), *typical_plans()]:
            for menu in reachable(ForgetfulMenu, plan):
                remembering = Menu(plan)
                # In a forgetful menu all hidden settings are the first ones, so these clicks lead to its state.
                remembering.show(menu.shown[-1])
                self.assertEqual(remembering.state, menu.state)
                for section in range(len(plan)):
                    self.assertEqual(menu.twin().show(section), remembering.twin().show(section))

    def test_closed_by_its_own_click(self):
        for kind in FORGETFUL:
            self.assertEqual(self.after(kind, P, 7, 9, 10, 7), [0, 0, 0, 0, 5, 0, 0, 8, 0, 0, 0])
            self.assertEqual(self.after(kind, P, 1, 3, 1, 1), [1, 0, 0, 0, 5, 0, 0, 8, 0, 0, 0])
        for kind in REMEMBERING:
            self.assertEqual(self.after(kind, P, 7, 9, 10, 7), [0, 0, 0, 0, 5, 0, 0, 10, 0, 0, 0])
            self.assertEqual(self.after(kind, P, 1, 3, 1, 1), [1, 3, 0, 0, 5, 0, 0, 8, 0, 0, 0])

    def test_closed_by_a_click_on_another_section(self):
        for outer in KINDS:
            for inner in KINDS:
                plan = [(0, outer), (1, inner), (2, O), (2, O), (1, inner), (2, O), (2, O)]
                # The settings of the inner groups in the first state.
                first, second = (0, 0) if inner == O else (2, 5)
                way = ([1] if outer == O else []) + [3, 4, 6]
                for kind in FORGETFUL:
                    self.assertEqual(self.after(kind, plan, *way), [4, first, 0, 0, 6, 0, 0])
                    self.assertEqual(self.after(kind, plan, *way, 1), [1, first, 0, 0, second, 0, 0])
                for kind in REMEMBERING:
                    self.assertEqual(self.after(kind, plan, *way, 1), [1, 3, 0, 0, 6, 0, 0])

    def test_groups_within_groups(self):
        for middle in KINDS:
            plan = [(0, O), (1, middle), (2, "tab"), (3, O), (3, "step"), (4, O), (4, O), (2, O), (1, O)]
            way = [1] + ([2] if middle == O else []) + [4, 6]
            for kind in FORGETFUL:
                for close, page in ((1, 0), (8, 8)):
                    closed = self.after(kind, plan, *way, close)
                    self.assertEqual(closed, [page, 0 if middle == O else 2, 3, 0, 5, 0, 0, 0, 0])
                # What is around the closed section stays.
                self.assertEqual(self.after(kind, plan, *way, 7), [1, 7, 3, 0, 5, 0, 0, 0, 0])
                self.assertEqual(self.after(kind, plan, *way, 3), [1, 2, 3, 0, 5, 0, 0, 0, 0])
            for kind in REMEMBERING:
                self.assertEqual(self.after(kind, plan, *way, 8), [8, 2, 4, 0, 6, 0, 0, 0, 0])

    def test_only_the_closed_section_forgets(self):
        plan = [(0, "tab"), (1, O), (2, O), (3, O), (2, O), (3, O), (1, O), (2, O)]
        for kind in FORGETFUL:
            # The inner section is closed within the outer one, which stays open.
            self.assertEqual(self.after(kind, plan, 2, 3, 4, 5), [1, 4, 0, 0, 5, 0, 0, 0])
            self.assertEqual(self.after(kind, plan, 2, 3, 2), [1, 0, 0, 0, 0, 0, 0, 0])
            self.assertEqual(self.after(kind, plan, 2, 3, 6, 7), [6, 0, 0, 0, 0, 0, 7, 0])

    def test_click_on_an_open_tab_or_step_closes_nothing(self):
        for outer in ("tab", "step"):
            plan = [(0, outer), (1, O), (2, "step"), (3, O), (3, O), (1, O)]
            for kind in FORGETFUL:
                menu = kind(plan)
                menu.click(2, 4)
                self.assertEqual([menu.click(1), menu.click(4), menu.state], [[False], [False], [1, 2, 4, 0, 0, 0]])
        for kind in FORGETFUL:
            menu = kind(P)
            menu.click(7, 9, 9)
            self.assertEqual(menu.state, [7, 0, 0, 0, 5, 0, 0, 9, 0, 0, 0])

    def test_opening_where_nothing_is_open_closes_nothing(self):
        for kind in FORGETFUL:
            self.assertEqual(self.after(kind, P, 4, 6), [4, 0, 0, 0, 6, 0, 0, 8, 0, 0, 0])
            self.assertEqual(self.after(kind, P, 4, 6, 7), [7, 0, 0, 0, 5, 0, 0, 8, 0, 0, 0])

    def test_hidden_headers_are_those_of_the_forgetful_state(self):
        for kind in FORGETFUL:
            self.assertEqual(kind(P).show(10), [7, 9, 10])
            menu = kind(P)
            menu.click(7, 9, 1, 7)
            self.assertEqual([menu.visible, menu.state[7]], [[1, 4, 7, 8, 9], 8])
            self.assertEqual(menu.report()[-1], "forgets")


class NotOfMenusTest(unittest.TestCase):
    """Point 27."""

    def test_a_click_is_not_always_undone_by_one_click(self):
        for kind in FORGETFUL:
            menu = kind(P)
            menu.click(7, 9)
            before = menu.state
            menu.click(1)
            self.assertNotIn(before, [self.after_one(menu, section) for section in menu.visible])

    def after_one(self, menu, section):
        other = menu.twin()
        other.click(section)
        return other.state

    def test_functions_speak_of_states_that_remember(self):
        menu = ForgetfulMenu(P)
        menu.click(7, 9)
        state = menu.state
        menu.click(1)
        self.assertEqual(menu.state, [1] + first_state(P)[1:])
        self.assertEqual(after_clicks(P, state, 1), [1, 0, 0, 0, 5, 0, 0, 9, 0, 0, 0])
        self.assertEqual([back_click(P, state, 1), distance(P, after_clicks(P, state, 1), state)], [7, 1])
        self.assertIsNone(first_hidden(P, state, [1, 7, 10]))


if __name__ == "__main__":
    unittest.main()
