"""Points 2, 8 and 13: clicks and what undoes them."""

import unittest

from accordions.clicks import after_clicks, back_click, clicks_between, first_hidden, steps
from accordions.errors import HiddenError, InvalidClicksError, InvalidPlanError, InvalidSectionError, InvalidStateError
from accordions.states import first_state, visible_headers
from tests import definitions
from tests.examples import (CHAIN, F, G, MIXED, O, P, PAGE, STEPS, Agreeable, SubList, SubTuple, other_kinds,
                            small_plans, typical_plans, wrong_plans, wrong_sections)


def take_steps(plan, state, clicks):
    return list(steps(plan, state, clicks))


class ClickTest(unittest.TestCase):
    def assert_hidden(self, turn, function, *arguments):
        with self.assertRaises(HiddenError) as caught:
            function(*arguments)
        self.assertIs(type(caught.exception.turn), int)
        self.assertEqual(caught.exception.turn, turn)

    def assert_run(self, plan, state, clicks):
        """All three functions do what the definition of a click says."""
        rows, turn = definitions.run(plan, state, clicks)
        self.assertEqual(first_hidden(plan, state, clicks), turn)
        if turn is None:
            self.assertEqual(after_clicks(plan, state, *clicks), rows[-1])
            self.assertEqual(take_steps(plan, state, clicks), rows)
        else:
            self.assert_hidden(turn, after_clicks, plan, state, *clicks)
            self.assert_hidden(turn, take_steps, plan, state, clicks)

    def test_examples(self):
        self.assertEqual(after_clicks(P, F, 7, 9), [7, 0, 0, 0, 5, 0, 0, 9, 0, 0, 0])
        self.assertEqual(first_hidden(P, F, [7, 10]), 1)
        self.assertEqual([back_click(P, G, 7), back_click(P, G, 3)], [1, 3])
        self.assertEqual([clicks_between(P, F, G), clicks_between([(0, "tab"), (1, O)], [1, 0], [1, 0])], [[], [1]])
        self.assertEqual([state[:2] for state in steps(P, G, [3, 1])], [[1, 3], [1, 0], [0, 0]])

    def test_single_clicks(self):
        for plan in [*small_plans(4), *typical_plans()]:
            for state in definitions.states(plan):
                for section in range(1, len(plan)):
                    self.assert_run(plan, state, [section])

    def test_pairs_of_clicks(self):
        for plan in typical_plans():
            for state in definitions.states(plan)[::7]:
                for first in range(1, len(plan)):
                    for second in range(1, len(plan)):
                        self.assert_run(plan, state, [first, second])

    def test_no_header(self):
        for plan, state in ((P, F), (P, G), (PAGE, [0])):
            self.assertEqual(after_clicks(plan, state), state)
            self.assertIsNone(first_hidden(plan, state, []))
            self.assertEqual(take_steps(plan, state, []), [state])

    def test_twenty_headers(self):
        headers = [7, 9, 10, 9, 8, 4, 6, 5, 1, 2, 3, 3, 2, 7, 8, 9, 1, 4, 5, 4]
        self.assertEqual(len(headers), 20)
        self.assert_run(P, F, headers)
        self.assertEqual(after_clicks(P, F, *headers), [0, 2, 0, 0, 5, 0, 0, 9, 0, 0, 0])

    def test_three_hundred_clicks_and_one_more(self):
        for clicks in ([1] * 300, [7, 9, 9, 8, 8, 7] * 50, [2] * 300, [1] * 299 + [9]):
            self.assertEqual(len(clicks), 300)
            self.assert_run(P, F, clicks)
        self.assertEqual(len(take_steps(P, F, [1] * 300)), 301)
        for function in (first_hidden, take_steps):
            with self.assertRaises(InvalidClicksError):
                function(P, F, [1] * 301)
        with self.assertRaises(InvalidClicksError):
            after_clicks(P, F, *([1] * 301))

    def test_long_way_through_steps(self):
        way = list(range(1, 40)) + list(range(39, 0, -1))
        self.assert_run(STEPS, first_state(STEPS), way)
        self.assert_run(STEPS, first_state(STEPS), way + [3])
        deep = list(range(1, 40))
        for state in (first_state(CHAIN), [section + 1 for section in range(39)] + [0]):
            self.assert_run(CHAIN, state, deep)
        self.assert_run(MIXED, first_state(MIXED), [4, 6, 7, 9, 1, 2, 40 - 1])

    def test_click_that_closes(self):
        plan = [(0, O), (1, O), (2, O), (1, O)]
        self.assertEqual(after_clicks(plan, [1, 2, 0, 0], 1), [0, 2, 0, 0])
        self.assertEqual(after_clicks(plan, [1, 2, 0, 0], 2, 1), [0, 0, 0, 0])
        self.assertEqual(after_clicks(plan, [1, 2, 0, 0], 3, 3, 1), [1, 2, 0, 0])

    def test_click_that_changes_nothing(self):
        for kind in ("tab", "step"):
            plan = [(0, kind), (1, O), (1, O)]
            self.assertEqual(after_clicks(plan, [2, 0, 0], 2), [2, 0, 0])
            self.assertEqual(take_steps(plan, [2, 0, 0], [2, 2]), [[2, 0, 0]] * 3)
            self.assertIsNone(back_click(plan, [2, 0, 0], 2))
            self.assertEqual(clicks_between(plan, [2, 0, 0], [2, 0, 0]), [2])

    def test_closed_section_remembers(self):
        self.assertEqual(after_clicks(P, G, 4), [4, 3, 0, 0, 6, 0, 0, 10, 0, 0, 0])
        self.assertEqual(after_clicks(P, G, 4, 1), G)

    def test_turn_of_hidden_headers(self):
        for clicks, turn in (([2, 1, 2], 0), ([8], 0), ([1, 2, 8, 1], 2), ([7, 10, 8], 1), ([7, 9, 10, 7, 9], 4),
                             ([1, 1, 2, 8, 9], 2), ([4, 5, 2], 2)):
            self.assertEqual(first_hidden(P, F, clicks), turn)
            self.assert_hidden(turn, after_clicks, P, F, *clicks)
            self.assert_hidden(turn, take_steps, P, F, clicks)

    def test_whole_list_is_checked_before_the_first_state(self):
        self.assert_hidden(3, next, steps(P, F, [7, 9, 8, 10]))
        with self.assertRaises(InvalidClicksError):
            next(steps(P, F, [7, 9, 8, 11]))

    def test_wrong_clicks(self):
        for plan, state in ((P, F), (P, G), (PAGE, [0])):
            for wrong in [0] + wrong_sections(plan):
                for clicks in ([wrong], [1, wrong], [wrong, 1], [2, wrong, 7]):
                    for function in (first_hidden, take_steps):
                        with self.assertRaises(InvalidClicksError, msg=clicks):
                            function(plan, state, clicks)
                    with self.assertRaises(InvalidClicksError, msg=clicks):
                        after_clicks(plan, state, *clicks)

    def test_click_lists_of_other_kinds(self):
        wrong = [value for value in other_kinds()] + [1, 7, (7, 9), SubList([7, 9]), SubTuple((7, 9)), {7: 9}, "7"]
        for clicks in wrong:
            for function in (first_hidden, take_steps):
                with self.assertRaises(InvalidClicksError, msg=clicks):
                    function(P, F, clicks)
        with self.assertRaises(InvalidClicksError):
            after_clicks(P, F, [7, 9])

    def test_wrong_plans_and_states(self):
        calls = (after_clicks, lambda plan, state: first_hidden(plan, state, []),
                 lambda plan, state: take_steps(plan, state, []), lambda plan, state: back_click(plan, state, 1),
                 lambda plan, state: clicks_between(plan, state, F))
        for call in calls:
            for plan in wrong_plans():
                with self.assertRaises(InvalidPlanError):
                    call(plan, F)
            for state in other_kinds() + [[], F[:-1], F + [0], [2] + F[1:], [True] + F[1:], tuple(F), SubList(F)]:
                with self.assertRaises(InvalidStateError):
                    call(P, state)


class BackTest(unittest.TestCase):
    def test_each_click_is_undone_by_one_click(self):
        for plan in [*small_plans(4), *typical_plans()]:
            for state in definitions.states(plan):
                for section in visible_headers(plan, state):
                    after = after_clicks(plan, state, section)
                    back = back_click(plan, state, section)
                    if after == state:
                        self.assertIsNone(back)
                    else:
                        self.assertEqual(after_clicks(plan, after, back), state)
                        self.assertEqual(clicks_between(plan, after, state), [back])

    def test_back_click_of_each_kind(self):
        for kind, backs in (("one", [1, 2, 1]), ("tab", [1, None, 3]), ("step", [1, None, 3])):
            plan = [(0, kind), (1, O), (1, O), (1, O)]
            found = [back_click(plan, [1, 0, 0, 0], 2), back_click(plan, [2, 0, 0, 0], 2)]
            self.assertEqual(found, backs[:2])
        self.assertEqual(back_click([(0, O), (1, O), (1, O)], [0, 0, 0], 2), 2)
        self.assertEqual(back_click([(0, "tab"), (1, O), (1, O), (1, O)], [3, 0, 0, 0], 1), 3)
        self.assertEqual(back_click([(0, "step"), (1, O), (1, O), (1, O)], [3, 0, 0, 0], 2), 3)

    def test_wrong_sections(self):
        for plan, state in ((P, F), (PAGE, [0])):
            for section in [0] + wrong_sections(plan):
                with self.assertRaises(InvalidSectionError, msg=section):
                    back_click(plan, state, section)

    def test_hidden_sections(self):
        for state in definitions.states(P):
            for section in range(1, len(P)):
                if not definitions.is_visible(P, state, section):
                    with self.assertRaises(HiddenError) as caught:
                        back_click(P, state, section)
                    self.assertEqual(caught.exception.turn, 0)


class BetweenTest(unittest.TestCase):
    def test_all_pairs_of_states(self):
        for plan in [*small_plans(3), P]:
            states = definitions.states(plan)
            for state in states:
                headers = [section for section in range(1, len(plan)) if definitions.is_visible(plan, state, section)]
                ends = {section: definitions.after_click(plan, state, section) for section in headers}
                for other in states:
                    found = [section for section in headers if ends[section] == other]
                    self.assertEqual(clicks_between(plan, state, other), found)

    def test_equal_states(self):
        plan = [(0, "tab"), (1, "step"), (2, "tab"), (3, O), (2, O), (1, "one"), (2, O)]
        self.assertEqual(clicks_between(plan, [1, 2, 3, 0, 0, 6, 0], [1, 2, 3, 0, 0, 6, 0]), [1, 2, 3])
        self.assertEqual(clicks_between(plan, [5, 2, 3, 0, 0, 6, 0], [5, 2, 3, 0, 0, 6, 0]), [5])
        self.assertEqual(clicks_between(P, F, F), [])
        self.assertEqual(clicks_between(PAGE, [0], [0]), [])

    def test_hidden_change(self):
        self.assertEqual(clicks_between(P, F, [0, 2] + F[2:]), [])
        self.assertEqual(clicks_between(P, [1] + F[1:], [1, 2] + F[2:]), [2])

    def test_far_step(self):
        plan = [(0, "step"), (1, O), (1, O), (1, O)]
        self.assertEqual(clicks_between(plan, [1, 0, 0, 0], [3, 0, 0, 0]), [])
        self.assertEqual(clicks_between(plan, [2, 0, 0, 0], [3, 0, 0, 0]), [3])

    def test_wrong_other(self):
        for other in other_kinds() + [[], F[:-1], F + [0], [2] + F[1:], [False] + F[1:], tuple(F), SubList(F),
                                      [Agreeable()] + F[1:]]:
            with self.assertRaises(InvalidStateError, msg=other):
                clicks_between(P, F, other)


if __name__ == "__main__":
    unittest.main()
