"""Points 22 and 23: views, and what can be read from lists of them."""

import unittest
from itertools import product
from math import prod
from random import Random

from accordions.clicks import after_clicks, steps
from accordions.errors import (InvalidNumberError, InvalidPlanError, InvalidStateError, InvalidViewsError,
                               NotFittingError)
from accordions.states import count_states, first_state, nth_state
from accordions.views import clicks_of, count_alike, count_beginnings, is_view, known_settings, nth_alike, view_of
from tests import definitions, searches
from tests.examples import (CHAIN, CHAINS, F, G, KINDS, LARGE_PLANS, MIXED, O, ONES, P, PAGE, PAIRS, STEPS, TABS,
                            Agreeable, SubList, SubTuple, other_kinds, small_plans, small_shapes, typical_plans,
                            wrong_plans, wrong_sections)

READINGS = (clicks_of, count_beginnings, known_settings)


def views_of_states(plan, states):
    """The view of each state, as a tuple."""
    return {tuple(state): definitions.view(plan, list(state)) for state in states}


def seen(plan, state, clicks):
    """The views at the beginning and after each click."""
    return [view_of(plan, row) for row in steps(plan, state, clicks)]


def turned_clicks(plan, state, clicks):
    """The clicks, with a 0 for each that changes nothing."""
    rows = list(steps(plan, state, clicks))
    return [0 if rows[turn] == rows[turn + 1] else click for turn, click in enumerate(clicks)]


def settings_that_can_be_told(plan, views, state):
    """The settings of a state without those of groups whose section is shown in no view."""
    shown = {0} | {section for view in views for section, is_open in view if is_open}
    return [None if definitions.group(plan, section) and section not in shown else setting
            for section, setting in enumerate(state)]


class ViewTest(unittest.TestCase):
    def assert_views(self, plan):
        """All states of the plan, put together by their views."""
        states = definitions.states(plan)
        found = views_of_states(plan, states)
        for state in states:
            view = found[tuple(state)]
            alike = [other for other in states if found[tuple(other)] == view]
            self.assertEqual(view_of(plan, state), view, (plan, state))
            self.assertIs(is_view(plan, view), True)
            self.assertEqual(count_alike(plan, state), len(alike), (plan, state))
            self.assertEqual([nth_alike(plan, state, index) for index in range(len(alike))], alike)

    def test_examples(self):
        self.assertEqual([view_of(P, G), count_alike(P, G), is_view(P, [(1, True), (4, False), (7, False)])],
                         [[(1, True), (2, False), (3, True), (4, False), (7, False)], 6, False])

    def test_all_states_of_small_plans(self):
        for plan in [*small_plans(4), *small_shapes(5)]:
            self.assert_views(plan)

    def test_typical_plans(self):
        for plan in typical_plans():
            self.assert_views(plan)

    def test_page_alone(self):
        for kind in KINDS:
            plan = [(0, kind)]
            self.assertEqual([view_of(plan, [0]), count_alike(plan, [0]), nth_alike(plan, [0], 0)], [[], 1, [0]])
            self.assertEqual([is_view(plan, []), is_view(plan, [(0, True)])], [True, False])

    def test_each_kind_of_group(self):
        for kind, view in (("one", [(1, False), (2, False), (3, True), (4, False)]),
                           ("tab", [(1, False), (2, False), (3, True), (4, False)]),
                           ("step", [(2, False), (3, True), (4, False)])):
            plan = [(0, kind), (1, O), (1, O), (1, O), (1, O)]
            self.assertEqual(view_of(plan, [3, 0, 0, 0, 0]), view)
        self.assertEqual(view_of(ONES, [0] * 40), [(section, False) for section in range(1, 40)])
        self.assertEqual(view_of(STEPS, [1] + [0] * 39), [(1, True), (2, False)])
        self.assertEqual(view_of(STEPS, [39] + [0] * 39), [(38, False), (39, True)])

    def test_kinds_of_results(self):
        for state in (F, G):
            view = view_of(P, state)
            self.assertIs(type(view), list)
            for row in view:
                self.assertEqual([type(row), type(row[0]), type(row[1])], [tuple, int, bool])
            self.assertEqual([type(count_alike(P, state)), type(nth_alike(P, state, 0))], [int, list])

    def test_large_plans(self):
        for plan in (*LARGE_PLANS, *CHAINS, *PAIRS):
            total = count_states(plan)
            for state in (first_state(plan), nth_state(plan, total // 2), nth_state(plan, total - 1)):
                many = count_alike(plan, state)
                found = [nth_alike(plan, state, index) for index in sorted({0, many // 3, many - 1})]
                self.assertEqual(found, sorted(found))
                for other in found:
                    self.assertEqual(view_of(plan, other), view_of(plan, state))
                with self.assertRaises(InvalidNumberError):
                    nth_alike(plan, state, many)
        self.assertEqual(count_alike(CHAINS[0], [0] * 40), 2 ** 38)
        self.assertEqual(count_alike(CHAINS[0], list(range(1, 40)) + [0]), 1)
        # Hidden are the groups of 4 sections of the kind "one" and of 8 others, with two sections each.
        self.assertEqual(count_alike(MIXED, first_state(MIXED)), 3 ** 4 * 2 ** 8)


class IsViewTest(unittest.TestCase):
    def test_all_lists_of_sections_and_bools(self):
        for plan in small_plans(4):
            views = list(views_of_states(plan, definitions.states(plan)).values())
            for marks in product((None, False, True), repeat=len(plan)):
                value = [(section, mark) for section, mark in enumerate(marks) if mark is not None]
                self.assertIs(is_view(plan, value), value in views, (plan, value))

    def test_lists_near_a_view(self):
        for plan in typical_plans():
            views = list(views_of_states(plan, definitions.states(plan)).values())
            for view in views[::5]:
                for place in range(len(view)):
                    before, (section, is_open), behind = view[:place], view[place], view[place + 1:]
                    near = [before + behind, before + [view[place]] + view[place:], before + behind + [view[place]],
                            before + [(section, not is_open)] + behind, before + [(section + 1, is_open)] + behind,
                            before + [(section - 1, is_open)] + behind, before]
                    for value in near:
                        self.assertIs(is_view(plan, value), value in views, (plan, value))

    def test_other_order(self):
        self.assertIs(is_view(P, [(1, False), (4, False), (7, False)]), True)
        self.assertIs(is_view(P, [(4, False), (1, False), (7, False)]), False)
        self.assertIs(is_view(P, [(1, False), (4, False), (7, False), (7, False)]), False)

    def test_more_than_one_open(self):
        self.assertIs(is_view([(0, O), (1, O), (1, O)], [(1, True), (2, True)]), False)
        self.assertIs(is_view([(0, "tab"), (1, O), (1, O)], [(1, True), (2, True)]), False)
        self.assertIs(is_view([(0, "tab"), (1, O), (1, O)], [(1, False), (2, False)]), False)
        self.assertIs(is_view([(0, "step"), (1, O), (1, O)], [(1, False), (2, False)]), False)
        self.assertIs(is_view(STEPS, [(4, False), (5, True)]), False)
        self.assertIs(is_view(STEPS, [(4, False), (5, True), (6, False)]), True)

    def test_bools_and_integers_are_not_mixed_up(self):
        plan = [(0, "tab"), (1, O), (1, O)]
        self.assertIs(is_view(plan, [(1, True), (2, False)]), True)
        for value in ([(True, True), (2, False)], [(1, 1), (2, False)], [(1, True), (2, 0)], [(1, 1), (2, 0)],
                      [(1.0, True), (2, False)], [(1, 1.0), (2, False)], [(1, Agreeable()), (2, False)],
                      [(Agreeable(), True), (2, False)], [(1, None), (2, False)], [(1, "True"), (2, False)]):
            self.assertIs(is_view(plan, value), False, value)
        self.assertIs(is_view([(0, O), (1, O)], [(1, False)]), True)
        self.assertIs(is_view([(0, O), (1, O)], [(1, 0)]), False)
        self.assertIs(is_view([(0, O), (1, O)], [(True, False)]), False)

    def test_values_of_other_kinds(self):
        view = view_of(P, G)
        values = other_kinds() + [tuple(view), SubList(view), SubTuple(view), iter(view), dict(view), [view], [[]],
                                  [()], [list(row) for row in view], [SubTuple(row) for row in view],
                                  [row[0] for row in view], [(0, True)] + view, []]
        values += [view[:-1] + [row] for row in ((7,), (7, False, False), None, Agreeable(), "7")]
        values += [view + [(section, False)] for section in (11, -1, 10 ** 30)]
        for value in values:
            self.assertIs(is_view(P, value), False, value)
        for section in wrong_sections(P):
            self.assertIs(is_view(P, view[:-1] + [(section, False)]), False, section)
        for value in other_kinds():
            self.assertIs(is_view(PAGE, value), False, value)


class ReadingTest(unittest.TestCase):
    def assert_reading(self, plan, moves, found, wanted):
        """The views fit or not as a search through all states and clicks tells; True if they fit."""
        ways = searches.readings(moves, found, wanted)
        self.assertEqual(count_beginnings(plan, wanted), len({start for start, _, _ in ways}), (plan, wanted))
        if not ways:
            self.assertIsNone(clicks_of(plan, wanted), (plan, wanted))
            with self.assertRaises(NotFittingError, msg=(plan, wanted)):
                known_settings(plan, wanted)
            return False
        self.assertEqual({clicks for _, clicks, _ in ways}, {tuple(clicks_of(plan, wanted))}, (plan, wanted))
        known = known_settings(plan, wanted)
        for _, _, end in ways:
            self.assertEqual(settings_that_can_be_told(plan, wanted, end), known, (plan, wanted))
        return True

    def test_examples(self):
        views = [view_of(P, F), view_of(P, G), view_of(P, [1, 0, 0, 0, 5, 0, 0, 8, 0, 0, 0])]
        self.assertEqual([clicks_of(P, views), count_beginnings(P, views)], [[1, 3], 6])
        self.assertEqual(known_settings(P, views), [1, 0, 0, 0, None, 0, 0, None, 0, 0, 0])
        self.assertIsNone(clicks_of(P, [views[0], views[0]]))

    def test_all_short_lists_of_views_in_small_plans(self):
        fitting, others = 0, 0
        for plan in [*small_plans(3), *small_shapes(4)]:
            moves = searches.graph(plan)
            found = views_of_states(plan, moves)
            views = [list(row) for row in sorted({tuple(view) for view in found.values()})]
            for length in (1, 2, 3):
                for wanted in product(views, repeat=length):
                    if self.assert_reading(plan, moves, found, list(wanted)):
                        fitting += 1
                    else:
                        others += 1
        self.assertGreater(fitting, 500)
        self.assertGreater(others, 500)

    def test_long_lists_in_typical_plans(self):
        chance = Random(23)
        for plan in typical_plans():
            moves = searches.graph(plan)
            found = views_of_states(plan, moves)
            for length in (1, 4, 12, 30):
                state, clicks = searches.walk(moves, chance, length)
                wanted = seen(plan, state, clicks)
                self.assertTrue(self.assert_reading(plan, moves, found, wanted))
                self.assertEqual(clicks_of(plan, wanted), turned_clicks(plan, state, clicks))

    def test_long_lists_with_one_view_changed(self):
        chance = Random(24)
        for plan in [*typical_plans(), *small_shapes(5)]:
            moves = searches.graph(plan)
            found = views_of_states(plan, moves)
            state, clicks = searches.walk(moves, chance, 7)
            wanted = seen(plan, state, clicks)
            for place in range(len(wanted)) if len(plan) > 5 else [4]:
                other = found[chance.choice(sorted(moves))]
                for changed in (wanted[:place] + [other] + wanted[place + 1:], wanted[:place] + wanted[place + 1:],
                                wanted[:place + 1] + wanted[place:]):
                    if changed:
                        self.assert_reading(plan, moves, found, changed)

    def test_lists_in_which_a_remembered_setting_is_another_one(self):
        chance = Random(25)
        for plan in typical_plans():
            moves = searches.graph(plan)
            found = views_of_states(plan, moves)
            for _ in range(3):
                state, clicks = searches.walk(moves, chance, 6)
                rows = [tuple(row) for row in steps(plan, state, clicks)]
                # The walk goes on from a state that is alike at this time but not in what is hidden.
                other = nth_alike(plan, list(rows[-1]), chance.randrange(count_alike(plan, list(rows[-1]))))
                here, wanted = tuple(other), [found[row] for row in rows]
                for _ in range(6 if moves[here] else 0):
                    _, here = chance.choice(moves[here])
                    wanted.append(found[here])
                self.assert_reading(plan, moves, found, wanted)

    def test_list_of_one_view(self):
        for plan in (P, PAGE, *LARGE_PLANS, *CHAINS, *PAIRS):
            for state in (first_state(plan), nth_state(plan, count_states(plan) - 1)):
                views = [view_of(plan, state)]
                self.assertEqual(clicks_of(plan, views), [])
                self.assertEqual(count_beginnings(plan, views), count_alike(plan, state))
                self.assertEqual(known_settings(plan, views), settings_that_can_be_told(plan, views, state))

    def test_page_alone(self):
        for kind in KINDS:
            plan = [(0, kind)]
            self.assertEqual([call(plan, [[]]) for call in READINGS], [[], 1, [0]])
            self.assertEqual([clicks_of(plan, [[], []]), count_beginnings(plan, [[], []])], [None, 0])
            with self.assertRaises(NotFittingError):
                known_settings(plan, [[], []])

    def test_equal_views_one_after_another(self):
        for kind, fits in (("one", False), ("tab", True), ("step", True)):
            plan = [(0, kind), (1, O), (1, O)]
            views = [view_of(plan, [1, 0, 0])] * 3
            self.assertEqual(clicks_of(plan, views), [0, 0] if fits else None)
            self.assertEqual(count_beginnings(plan, views), 1 if fits else 0)
            if fits:
                self.assertEqual(known_settings(plan, views), [1, 0, 0])
        # The header in the "tab" group is open, but not visible.
        hidden, shown = [0] + F[1:], [4] + F[1:]
        self.assertIsNone(clicks_of(P, [view_of(P, hidden)] * 2))
        self.assertEqual(clicks_of(P, [view_of(P, shown)] * 2), [0])
        self.assertEqual(clicks_of(P, [view_of(P, [7] + F[1:])] * 2), [0])
        self.assertIsNone(clicks_of(P, [view_of(P, [1] + F[1:])] * 2))
        self.assertIsNone(clicks_of(P, [view_of(P, G)] * 2))

    def test_settings_that_become_known_later(self):
        views = seen(P, [0, 2, 0, 0, 6, 0, 0, 9, 0, 0, 0], [1, 4, 5, 1])
        nothing = [0, None, 0, 0, None, 0, 0, None, 0, 0, 0]
        self.assertEqual([known_settings(P, views[:many]) for many in (1, 2, 3, 4, 5)], [
            nothing, [1, 2] + nothing[2:], [4, 2, 0, 0, 6] + nothing[5:], [4, 2, 0, 0, 5] + nothing[5:],
            [1, 2, 0, 0, 5] + nothing[5:]])
        self.assertEqual([count_beginnings(P, views[:many]) for many in (1, 2, 3, 4, 5)], [18, 6, 3, 3, 3])

    def test_closed_section_must_show_what_it_showed_before(self):
        first, second = [1, 2] + F[2:], [1, 3] + F[2:]
        away = [0, 2] + F[2:]
        views = [view_of(P, state) for state in (first, away, second)]
        self.assertIsNone(clicks_of(P, views))
        self.assertEqual(clicks_of(P, views[1:]), [1])
        self.assertEqual(clicks_of(P, [views[0], views[1], views[0]]), [1, 1])
        with self.assertRaises(NotFittingError):
            known_settings(P, views)

    def test_two_clicks_between_two_views(self):
        for state, clicks, found in ((F, (7, 9), [7]), (F, (1, 2), [1]), (G, (3, 1), [1]), ([7] + F[1:], (9, 10), None),
                                     ([7] + F[1:], (9, 1), [1]), (G, (2, 3, 1), [1]), ([1, 2] + F[2:], (2, 4), [4])):
            views = [view_of(P, state), view_of(P, after_clicks(P, state, *clicks))]
            # One of them alone does it too if the other one's group is hidden in one of the views.
            self.assertEqual(clicks_of(P, views), found)
            self.assertEqual(count_beginnings(P, views) > 0, found is not None)

    def test_known_setting_of_a_group_with_one_section(self):
        # It has but one setting, but it was not shown.
        plan = [(0, O), (1, "tab"), (2, O), (1, "step"), (2, O)]
        views = seen(plan, [0, 2, 0, 4, 0], [1, 1])
        self.assertEqual([known_settings(plan, views), count_beginnings(plan, views)], [[0, 2, 0, None, 0], 1])

    def test_hundred_views(self):
        walks = [(P, F, [7, 9, 9, 8, 4, 6, 5, 5, 1, 2, 1] * 9), (P, G, [3, 1, 1] * 33),
                 (STEPS, [1] + [0] * 39, list(range(2, 40)) + list(range(38, 0, -1)) + list(range(1, 24))),
                 (TABS, [4] + [0] * 39, [4] * 99)]
        for plan, state, clicks in walks:
            views = seen(plan, state, clicks)
            self.assertEqual(len(views), 100)
            self.assertEqual(clicks_of(plan, views), turned_clicks(plan, state, clicks))
            end = after_clicks(plan, state, *clicks)
            self.assertEqual(known_settings(plan, views), settings_that_can_be_told(plan, views, end))
            free = [section for section, setting in enumerate(known_settings(plan, views)) if setting is None]
            self.assertEqual(count_beginnings(plan, views), prod(len(definitions.settings(plan, one)) for one in free))
            for call in READINGS:
                with self.assertRaises(InvalidViewsError):
                    call(plan, views + [views[-1]])

    def test_deep_chain(self):
        for plan in CHAINS:
            state = first_state(plan)
            clicks = list(range(1, 40)) + list(range(39, 0, -1))
            views = seen(plan, state, clicks)
            self.assertEqual(clicks_of(plan, views), turned_clicks(plan, state, clicks))
            self.assertEqual([count_beginnings(plan, views), count_beginnings(plan, views[:1])],
                             [1, count_alike(plan, state)])
            self.assertNotIn(None, known_settings(plan, views))

    def test_kinds_of_results_and_new_lists(self):
        views = seen(P, F, [7, 7, 4, 4])
        for call in (clicks_of, known_settings):
            first = call(P, views)
            self.assertIs(type(first), list)
            expected = list(first)
            first.clear()
            self.assertEqual(call(P, views), expected)
        self.assertEqual([type(item) for item in clicks_of(P, views)], [int] * 4)
        self.assertIs(type(count_beginnings(P, views)), int)
        self.assertEqual(known_settings(P, views), [0, None, 0, 0, 5, 0, 0, 8, 0, 0, 0])


class WrongArgumentsTest(unittest.TestCase):
    def test_wrong_views(self):
        view = view_of(P, F)
        wrong = other_kinds() + [[], [view] * 101, (view,), SubList([view]), SubTuple((view,)), view, [view, None],
                                 [None], [view, []], [[]], [tuple(view)], [view, SubList(view)],
                                 [view, [list(row) for row in view]], [[(1, 0), (4, False), (7, False)]],
                                 [[(True, False), (4, False), (7, False)]],
                                 [view, view[:-1]], [view_of(P, G), [(1, True), (4, False), (7, False)]], [view, 1],
                                 [view_of(STEPS, first_state(STEPS))], [Agreeable()], [view, [Agreeable()]]]
        for views in wrong:
            for call in READINGS:
                with self.assertRaises(InvalidViewsError, msg=views):
                    call(P, views)
        for call in READINGS:
            with self.assertRaises(InvalidViewsError):
                call(PAGE, [[(0, True)]])
            with self.assertRaises(InvalidViewsError):
                call(PAGE, [])

    def test_wrong_views_before_views_that_do_not_fit(self):
        view = view_of(P, F)
        for views in ([view, view, None], [view, view, view[1:]], [view] * 101):
            for call in READINGS:
                with self.assertRaises(InvalidViewsError):
                    call(P, views)

    def test_wrong_index(self):
        for plan, state in ((P, F), (P, G), (PAGE, [0]), (CHAIN, first_state(CHAIN))):
            many = count_alike(plan, state)
            for index in [-1, -many, many, many + 1, 10 ** 79, -10 ** 79, [0], []] + other_kinds():
                with self.assertRaises(InvalidNumberError, msg=index):
                    nth_alike(plan, state, index)

    def test_wrong_plans(self):
        for plan in wrong_plans():
            for call in (lambda: view_of(plan, F), lambda: is_view(plan, []), lambda: count_alike(plan, F),
                         lambda: nth_alike(plan, F, 0), lambda: clicks_of(plan, [[]]),
                         lambda: count_beginnings(plan, [[]]), lambda: known_settings(plan, [[]])):
                with self.assertRaises(InvalidPlanError, msg=plan):
                    call()

    def test_wrong_states(self):
        wrong = other_kinds() + [[], F[:-1], F + [0], [2] + F[1:], [True] + F[1:], tuple(F), SubList(F), SubTuple(F),
                                 [Agreeable()] + F[1:], first_state(CHAIN), [-1] + F[1:]]
        for value in wrong:
            for call in (lambda: view_of(P, value), lambda: count_alike(P, value), lambda: nth_alike(P, value, 0)):
                with self.assertRaises(InvalidStateError, msg=value):
                    call()


if __name__ == "__main__":
    unittest.main()
