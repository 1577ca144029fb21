"""Points 3, 4 and 5 and the interface: what holds for all functions."""

import inspect
import unittest
from copy import deepcopy
from enum import IntEnum

from accordions import clicks, distances, effects, layers, menu, plans, shortest, states, text, tours, views
from accordions.errors import (AccordionsError, EmptyHistoryError, HiddenError, InvalidClicksError, InvalidFormatError,
                               InvalidNumberError, InvalidPlanError, InvalidSectionError, InvalidSectionsError,
                               InvalidStateError, InvalidViewsError, NotFittingError)
from tests.examples import CHAIN, F, G, LARGE_PLANS, O, P

NO_PLAN, NO_STATE, NO_SECTION, NO_SECTIONS, NO_NUMBER = [(1, O)], [9] * 11, 11, [1, 1], -1
VIEW_F = [(1, False), (4, False), (7, False)]
VIEW_G = [(1, True), (2, False), (3, True), (4, False), (7, False)]
TEXT = "one(one(one one) tab(one one) step(one one one))"
# What [4, 6] does to the groups of the sections 1, 4 and 7, and no click to the page's.
INNER = [(1, [(0, 0), (2, 2), (3, 3)]), (4, [(5, 6), (6, 6)]), (7, [(8, 8), (9, 9), (10, 10)])]

# The interface: file, function and parameters.
INTERFACE = (
    (plans, "is_plan", ["value"]), (plans, "parent_of", ["plan", "section"]), (plans, "group_of", ["plan", "section"]),
    (plans, "around", ["plan", "section"]), (plans, "sections_within", ["plan", "section"]),
    (plans, "plan_without", ["plan", "section"]),
    (states, "is_state", ["plan", "value"]), (states, "first_state", ["plan"]), (states, "nth_state", ["plan", "index"]),
    (states, "count_states", ["plan"]), (states, "state_rank", ["plan", "state"]),
    (states, "shown_sections", ["plan", "state"]), (states, "visible_headers", ["plan", "state"]),
    (clicks, "after_clicks", ["plan", "state", "headers"]), (clicks, "first_hidden", ["plan", "state", "clicks"]),
    (clicks, "back_click", ["plan", "state", "section"]), (clicks, "steps", ["plan", "state", "clicks"]),
    (clicks, "clicks_between", ["plan", "state", "other"]),
    (distances, "distance", ["plan", "state", "goal"]), (distances, "greatest_distance", ["plan"]),
    (distances, "walks", ["plan", "state", "goal"]), (distances, "working_sections", ["plan", "state", "goal"]),
    (distances, "nearer_clicks", ["plan", "state", "goal"]),
    (shortest, "count_shortest", ["plan", "state", "goal"]),
    (shortest, "nth_shortest", ["plan", "state", "goal", "index"]),
    (shortest, "shortest_rank", ["plan", "state", "goal", "value"]),
    (shortest, "is_shortest", ["plan", "state", "goal", "value"]),
    (layers, "numbers_by_distance", ["plan", "state"]), (layers, "farthest", ["plan", "state"]),
    (layers, "nth_at", ["plan", "state", "count", "index"]), (layers, "rank_at", ["plan", "state", "other"]),
    (tours, "fewest_to_show", ["plan", "state", "sections"]), (tours, "count_tours", ["plan", "state", "sections"]),
    (tours, "nth_tour", ["plan", "state", "sections", "index"]),
    (tours, "is_tour", ["plan", "state", "sections", "value"]),
    (effects, "effect_of", ["plan", "clicks"]), (effects, "effect_of_rounds", ["plan", "clicks", "count"]),
    (effects, "same_effect", ["plan", "first", "second"]), (effects, "count_starts", ["plan", "clicks"]),
    (effects, "count_ends", ["plan", "clicks"]), (effects, "nth_start", ["plan", "clicks", "index"]),
    (views, "view_of", ["plan", "state"]), (views, "is_view", ["plan", "value"]),
    (views, "count_alike", ["plan", "state"]), (views, "count_beginnings", ["plan", "views"]),
    (views, "nth_alike", ["plan", "state", "index"]), (views, "clicks_of", ["plan", "views"]),
    (views, "known_settings", ["plan", "views"]),
    (text, "format_plan", ["plan"]), (text, "format_state", ["plan", "state"]), (text, "parse_plan", ["text"]),
    (text, "parse_state", ["plan", "text"]),
)

# Valid arguments by name, and the result.
CALLS = (
    (plans.is_plan, {"value": P}, True),
    (plans.parent_of, {"plan": P, "section": 9}, 7),
    (plans.group_of, {"plan": P, "section": 7}, [8, 9, 10]),
    (plans.around, {"plan": P, "section": 9}, [0, 7]),
    (plans.sections_within, {"plan": P, "section": 4}, [5, 6]),
    (plans.plan_without, {"plan": P, "section": 4}, P[:4] + P[7:]),
    (states.is_state, {"plan": P, "value": G}, True),
    (states.first_state, {"plan": P}, F),
    (states.count_states, {"plan": P}, 72),
    (states.nth_state, {"plan": P, "index": 35}, G),
    (states.state_rank, {"plan": P, "state": G}, 35),
    (states.shown_sections, {"plan": P, "state": G}, [0, 1, 3]),
    (states.visible_headers, {"plan": P, "state": G}, [1, 2, 3, 4, 7]),
    (clicks.after_clicks, {"plan": P, "state": G}, G),
    (clicks.first_hidden, {"plan": P, "state": F, "clicks": [7, 10]}, 1),
    (clicks.back_click, {"plan": P, "state": G, "section": 7}, 1),
    (clicks.steps, {"plan": P, "state": F, "clicks": [1]}, [F, [1] + F[1:]]),
    (clicks.clicks_between, {"plan": P, "state": F, "other": [1] + F[1:]}, [1]),
    (distances.distance, {"plan": P, "state": F, "goal": G}, 7),
    (distances.greatest_distance, {"plan": P}, 8),
    (distances.walks, {"plan": P, "state": F, "goal": G}, [(0, 3), (1, 1), (4, 1), (7, 2)]),
    (distances.working_sections, {"plan": P, "state": F, "goal": G}, [0, 1, 4, 7]),
    (distances.nearer_clicks, {"plan": P, "state": F, "goal": G}, [4, 7]),
    (shortest.count_shortest, {"plan": P, "state": F, "goal": G}, 2),
    (shortest.nth_shortest, {"plan": P, "state": F, "goal": G, "index": 1}, [7, 9, 10, 4, 6, 1, 3]),
    (shortest.shortest_rank, {"plan": P, "state": F, "goal": G, "value": [7, 9, 10, 4, 6, 1, 3]}, 1),
    (shortest.is_shortest, {"plan": P, "state": F, "goal": G, "value": [4, 6, 7, 9, 10, 1, 3]}, True),
    (layers.numbers_by_distance, {"plan": P, "state": F}, [1, 3, 4, 13, 13, 16, 12, 8, 2]),
    (layers.farthest, {"plan": P, "state": F}, (8, 2)),
    (layers.nth_at, {"plan": P, "state": F, "count": 8, "index": 1}, [0, 3, 0, 0, 6, 0, 0, 10, 0, 0, 0]),
    (layers.rank_at, {"plan": P, "state": F, "other": [0, 3, 0, 0, 6, 0, 0, 10, 0, 0, 0]}, 1),
    (tours.fewest_to_show, {"plan": P, "state": F, "sections": [3, 6, 9]}, 6),
    (tours.count_tours, {"plan": P, "state": F, "sections": [3, 6, 9]}, 6),
    (tours.nth_tour, {"plan": P, "state": F, "sections": [3, 6, 9], "index": 0}, [1, 3, 4, 6, 7, 9]),
    (tours.is_tour, {"plan": P, "state": G, "sections": [10], "value": [7]}, True),
    (effects.effect_of, {"plan": P, "clicks": [4, 6]}, [(0, [(0, 4), (1, 4), (7, 4)])] + INNER),
    (effects.effect_of_rounds, {"plan": P, "clicks": [4, 6], "count": 1}, [(0, [(0, 4), (1, 4), (7, 4)])] + INNER),
    (effects.same_effect, {"plan": P, "first": [1, 4], "second": [7, 4]}, True),
    (effects.count_starts, {"plan": P, "clicks": [4, 6]}, 54),
    (effects.count_ends, {"plan": P, "clicks": [4, 6]}, 9),
    (effects.nth_start, {"plan": P, "clicks": [4, 6], "index": 53}, [7, 3, 0, 0, 6, 0, 0, 10, 0, 0, 0]),
    (views.view_of, {"plan": P, "state": G}, VIEW_G),
    (views.is_view, {"plan": P, "value": VIEW_G}, True),
    (views.count_alike, {"plan": P, "state": G}, 6),
    (views.nth_alike, {"plan": P, "state": G, "index": 5}, G),
    (views.clicks_of, {"plan": P, "views": [VIEW_F, VIEW_G]}, [1]),
    (views.count_beginnings, {"plan": P, "views": [VIEW_F, VIEW_G]}, 6),
    (views.known_settings, {"plan": P, "views": [VIEW_F, VIEW_G]}, [1, 3, 0, 0, None, 0, 0, None, 0, 0, 0]),
    (text.format_plan, {"plan": P}, TEXT),
    (text.parse_plan, {"text": TEXT}, P),
    (text.format_state, {"plan": P, "state": G}, "0:1 1:3 4:6 7:10"),
    (text.parse_state, {"plan": P, "text": "0:1 1:3 4:6 7:10"}, G),
)


def called(function, *arguments, **named):
    """The result of a call, as a list if the function yields."""
    result = function(*arguments, **named)
    return list(result) if function == clicks.steps else result


def exact(value):
    """A value with the kinds of all its parts, so that True is not 1."""
    if type(value) in (list, tuple):
        return type(value), [exact(item) for item in value]
    return type(value), value


class InterfaceTest(unittest.TestCase):
    def test_names_and_parameters(self):
        for module, name, parameters in INTERFACE:
            function = getattr(module, name)
            found = inspect.signature(function).parameters
            self.assertEqual(list(found), parameters)
            self.assertEqual([one.default for one in found.values()], [inspect.Parameter.empty] * len(found))
            self.assertTrue(inspect.isfunction(function))

    def test_defined_in_the_file_that_lists_it(self):
        for module, name, _ in INTERFACE:
            self.assertEqual(getattr(module, name).__module__, module.__name__)

    def test_headers_stand_behind_a_star(self):
        kinds = [one.kind for one in inspect.signature(clicks.after_clicks).parameters.values()]
        self.assertEqual(kinds[2], inspect.Parameter.VAR_POSITIONAL)

    def test_steps_yields(self):
        self.assertTrue(inspect.isgeneratorfunction(clicks.steps))


class ArgumentsTest(unittest.TestCase):
    def test_by_name_and_by_position(self):
        self.assertEqual({function.__name__ for function, _, _ in CALLS}, {name for _, name, _ in INTERFACE})
        for function, named, result in CALLS:
            self.assertEqual(exact(called(function, **named)), exact(result), function)
            self.assertEqual(exact(called(function, *named.values())), exact(result), function)
            backwards = dict(list(named.items())[::-1])
            self.assertEqual(exact(called(function, **backwards)), exact(result), function)

    def test_arguments_are_not_changed(self):
        for function, named, _ in CALLS:
            before = deepcopy(named)
            called(function, **named)
            self.assertEqual(named, before)

    def test_arguments_are_not_changed_by_a_call_that_raises(self):
        for function, named, _ in CALLS:
            for name in named:
                wrong = deepcopy(named)
                wrong[name] = [[object], None]
                before = list(wrong[name])
                rest = deepcopy({key: value for key, value in wrong.items() if key != name})
                try:
                    called(function, **wrong)
                except AccordionsError:
                    pass
                self.assertEqual(wrong[name], before)
                self.assertEqual({key: value for key, value in wrong.items() if key != name}, rest)
        state, way = list(F), [7, 10]
        with self.assertRaises(HiddenError):
            clicks.after_clicks(P, state, *way)
        with self.assertRaises(HiddenError):
            list(clicks.steps(P, state, way))
        self.assertEqual([state, way], [F, [7, 10]])

    def test_equal_arguments_give_equal_results(self):
        for function, named, result in CALLS:
            for _ in range(3):
                self.assertEqual(called(function, **deepcopy(named)), result)

    def test_plan_changed_in_place_between_calls(self):
        plan, state = [(0, O), (1, O), (1, O)], [1, 0, 0]
        self.assertEqual([plans.group_of(plan, 0), states.count_states(plan)], [[1, 2], 3])
        self.assertEqual(states.visible_headers(plan, state), [1, 2])
        plan[2] = (2, "tab")
        self.assertEqual([plans.group_of(plan, 0), states.count_states(plan)], [[1], 4])
        self.assertEqual([plans.parent_of(plan, 2), plans.around(plan, 2)], [1, [0, 1]])
        self.assertEqual(states.visible_headers(plan, state), [1, 2])
        plan[0] = (0, "step")
        self.assertEqual([states.count_states(plan), states.first_state(plan)], [2, [1, 0, 0]])
        plan[0] = (1, "step")
        self.assertIs(plans.is_plan(plan), False)

    def test_state_and_clicks_changed_in_place_between_calls(self):
        state, way = list(F), [7]
        self.assertEqual([states.state_rank(P, state), clicks.first_hidden(P, state, way)], [0, None])
        state[:] = G
        way.append(8)
        self.assertEqual([states.state_rank(P, state), clicks.first_hidden(P, state, way)], [35, 1])
        self.assertEqual(states.shown_sections(P, state), [0, 1, 3])
        way[:] = [2]
        self.assertEqual(list(clicks.steps(P, state, way)), [G, [1, 2] + G[2:]])
        state[0] = 2
        self.assertIs(states.is_state(P, state), False)

    def test_goal_and_sections_changed_in_place_between_calls(self):
        state, goal, sections, value = list(F), list(G), [3, 6, 9], [7]
        self.assertEqual([distances.distance(P, state, goal), shortest.count_shortest(P, state, goal)], [7, 2])
        self.assertEqual([tours.count_tours(P, state, sections), layers.rank_at(P, state, goal)], [6, 3])
        self.assertIs(tours.is_tour(P, state, sections, value), False)
        goal[:] = [7] + F[1:]
        sections[:] = [8]
        self.assertEqual([distances.distance(P, state, goal), shortest.nth_shortest(P, state, goal, 0)], [1, [7]])
        self.assertEqual([distances.walks(P, state, goal), distances.working_sections(P, state, goal)], [[(0, 1)], [0]])
        self.assertEqual([tours.fewest_to_show(P, state, sections), layers.rank_at(P, state, goal)], [1, 2])
        self.assertIs(tours.is_tour(P, state, sections, value), True)
        self.assertIs(shortest.is_shortest(P, state, goal, value), True)
        state[:] = goal
        value.clear()
        self.assertEqual([distances.nearer_clicks(P, state, goal), layers.rank_at(P, state, goal)], [[], 0])
        self.assertIs(tours.is_tour(P, state, sections, value), True)
        self.assertEqual(shortest.shortest_rank(P, state, goal, value), 0)
        sections.append(8)
        with self.assertRaises(InvalidSectionsError):
            tours.count_tours(P, state, sections)

    def test_plan_changed_in_place_between_distances(self):
        plan, state, goal = [(0, O), (1, O), (1, O), (1, O)], [1, 0, 0, 0], [3, 0, 0, 0]
        self.assertEqual([distances.distance(plan, state, goal), distances.greatest_distance(plan)], [1, 1])
        self.assertEqual([layers.numbers_by_distance(plan, state), tours.fewest_to_show(plan, state, [3])], [[1, 3], 1])
        plan[0] = (0, "step")
        self.assertEqual([distances.distance(plan, state, goal), distances.greatest_distance(plan)], [2, 2])
        self.assertEqual([layers.farthest(plan, state), tours.fewest_to_show(plan, state, [3])], [(2, 1), 2])
        self.assertEqual(shortest.nth_shortest(plan, state, goal, 0), [2, 3])

    def test_clicks_and_views_changed_in_place_between_calls(self):
        way, other, seen = [4, 6], [4], [list(VIEW_F), list(VIEW_F)]
        self.assertEqual([effects.count_starts(P, way), effects.same_effect(P, way, other)], [54, False])
        self.assertEqual([views.clicks_of(P, seen), views.count_beginnings(P, seen)], [None, 0])
        way.pop()
        seen[1][:] = VIEW_G
        self.assertEqual([effects.count_ends(P, way), effects.same_effect(P, way, other)], [36, True])
        self.assertEqual([effects.effect_of(P, way)[0][1], effects.nth_start(P, way, 71)[:2]],
                         [[(0, 4), (1, 4), (4, 0), (7, 4)], [7, 3]])
        self.assertEqual([views.clicks_of(P, seen), views.count_beginnings(P, seen)], [[1], 6])
        way.append(2)
        seen.append(seen[1])
        self.assertEqual(effects.effect_of_rounds(P, way, 1), [(0, []), (1, []), (4, []), (7, [])])
        with self.assertRaises(NotFittingError):
            views.known_settings(P, seen)
        way.append(0)
        seen[1].pop()
        with self.assertRaises(InvalidClicksError):
            effects.count_starts(P, way)
        with self.assertRaises(InvalidViewsError):
            views.clicks_of(P, seen)

    def test_plan_changed_in_place_between_effects_views_and_strings(self):
        plan, state = [(0, O), (1, O), (1, O), (1, O)], [1, 0, 0, 0]
        self.assertEqual([effects.count_starts(plan, [3]), len(views.view_of(plan, state))], [4, 3])
        self.assertEqual([text.format_plan(plan), text.parse_state(plan, "0:0")], ["one(one one one)", [0, 0, 0, 0]])
        plan[0] = (0, "step")
        self.assertEqual([effects.count_starts(plan, [3]), len(views.view_of(plan, state))], [2, 2])
        self.assertEqual(text.format_plan(plan), "step(one one one)")
        with self.assertRaises(InvalidFormatError):
            text.parse_state(plan, "0:0")


class ResultsTest(unittest.TestCase):
    def test_results_are_new_lists(self):
        for function, named, result in CALLS:
            if isinstance(result, list):
                first = called(function, **named)
                self.assertFalse([name for name in named if named[name] is first])
                first.clear()
                self.assertEqual(called(function, **named), result)

    def test_unchanged_state_is_a_new_list(self):
        state = list(F)
        for result in (clicks.after_clicks(P, state), next(clicks.steps(P, state, []))):
            self.assertEqual(result, state)
            self.assertIsNot(result, state)
        tabs = [(0, "tab"), (1, O)]
        here = [1, 0]
        self.assertIsNot(clicks.after_clicks(tabs, here, 1), here)

    def test_yielded_lists_are_new_each(self):
        rows = list(clicks.steps([(0, "tab"), (1, O)], [1, 0], [1, 1]))
        self.assertEqual(len({id(row) for row in rows}), 3)

    def test_changed_yielded_list_does_not_matter(self):
        found = []
        for row in clicks.steps(P, F, [7, 9, 9]):
            found.append(list(row))
            row.clear()
        self.assertEqual([row[:8:7] for row in found], [[0, 8], [7, 8], [7, 9], [7, 9]])

    def test_arguments_changed_while_steps_yields(self):
        plan, state, way = list(P), list(F), [7, 9]
        going = clicks.steps(plan, state, way)
        first = next(going)
        plan.clear()
        state.clear()
        way.clear()
        self.assertEqual([first] + list(going), [F, [7] + F[1:], [7] + F[1:7] + [9, 0, 0, 0]])

    def test_kinds_of_results(self):
        for state in (F, G):
            lists = [states.shown_sections(P, state), states.visible_headers(P, state), states.nth_state(P, 3),
                     clicks.after_clicks(P, state, 7), clicks.clicks_between(P, state, state),
                     distances.working_sections(P, state, F), distances.nearer_clicks(P, state, F),
                     shortest.nth_shortest(P, state, F, 0), layers.nth_at(P, state, 2, 1),
                     tours.nth_tour(P, state, [2, 9], 0), effects.nth_start(P, [4], 7), views.nth_alike(P, state, 3),
                     views.clicks_of(P, [VIEW_F, VIEW_G, VIEW_F]), text.parse_state(P, "0:1 1:3 4:6 7:10")]
            for row in lists:
                self.assertIs(type(row), list)
                self.assertEqual([type(item) for item in row], [int] * len(row))
        for row in plans.plan_without(P, 1):
            self.assertIs(type(row), tuple)


class IntegersTest(unittest.TestCase):
    def test_bools_are_none(self):
        two = [(0, "tab"), (1, "tab")]
        for call, error in (
                (lambda: plans.parent_of(two, True), InvalidSectionError),
                (lambda: plans.plan_without(two, True), InvalidSectionError),
                (lambda: plans.group_of(two, False), InvalidSectionError),
                (lambda: states.nth_state(two, False), InvalidNumberError),
                (lambda: states.state_rank(two, [True, 0]), InvalidStateError),
                (lambda: states.state_rank(two, [1, False]), InvalidStateError),
                (lambda: clicks.after_clicks(two, [1, 0], True), InvalidClicksError),
                (lambda: clicks.first_hidden(two, [1, 0], [True]), InvalidClicksError),
                (lambda: clicks.back_click(two, [1, 0], True), InvalidSectionError),
                (lambda: clicks.clicks_between(two, [1, 0], [True, 0]), InvalidStateError),
                (lambda: distances.distance(two, [1, 0], [True, 0]), InvalidStateError),
                (lambda: shortest.nth_shortest(two, [1, 0], [1, 0], False), InvalidNumberError),
                (lambda: shortest.shortest_rank(two, [1, 0], [1, 0], [True]), InvalidClicksError),
                (lambda: layers.nth_at(two, [1, 0], False, 0), InvalidNumberError),
                (lambda: layers.nth_at(two, [1, 0], 0, False), InvalidNumberError),
                (lambda: layers.rank_at(two, [1, 0], [1, False]), InvalidStateError),
                (lambda: tours.count_tours(two, [1, 0], [False, 1]), InvalidSectionsError),
                (lambda: tours.nth_tour(two, [1, 0], [1], False), InvalidNumberError),
                (lambda: effects.effect_of(two, [True]), InvalidClicksError),
                (lambda: effects.same_effect(two, [1], [True]), InvalidClicksError),
                (lambda: effects.effect_of_rounds(two, [1], True), InvalidNumberError),
                (lambda: effects.effect_of_rounds(two, [1], False), InvalidNumberError),
                (lambda: effects.nth_start(two, [1], False), InvalidNumberError),
                (lambda: views.view_of(two, [True, 0]), InvalidStateError),
                (lambda: views.nth_alike(two, [1, 0], False), InvalidNumberError),
                (lambda: views.clicks_of(two, [[(True, True)]]), InvalidViewsError),
                (lambda: views.clicks_of(two, [[(1, 1)]]), InvalidViewsError),
                (lambda: text.format_state(two, [True, 0]), InvalidStateError),
                (lambda: menu.Menu(two).click(True), InvalidClicksError),
                (lambda: menu.Menu(two).show(True), InvalidSectionError),
                (lambda: menu.Menu(two).show(False), InvalidSectionError),
                (lambda: menu.Menu([(False, O)]), InvalidPlanError),
                (lambda: plans.parent_of([(False, O)], 0), InvalidPlanError),
                (lambda: plans.parent_of([(0, O), (True, O)], 0), InvalidPlanError)):
            with self.assertRaises(error):
                call()

    def test_any_int_that_is_no_bool(self):
        class Place(IntEnum):
            PAGE = 0
            FIRST = 1

        plan = [(Place.PAGE, O), (Place.FIRST, O)]
        self.assertIs(plans.is_plan(plan), True)
        self.assertEqual(plans.parent_of(plan, Place.FIRST), 0)
        self.assertEqual(states.state_rank(plan, [Place.FIRST, 0]), 1)
        self.assertEqual(views.view_of(plan, [Place.FIRST, 0]), [(1, True)])
        self.assertEqual(text.format_state(plan, [Place.FIRST, 0]), "0:1")
        self.assertEqual(menu.Menu(plan).click(Place.FIRST), [True])

    def test_large_integers(self):
        huge = 10 ** 31 - 1
        for number in (huge, -huge):
            self.assertIs(plans.is_plan([(0, O), (number, O)]), False)
            self.assertIs(states.is_state(P, [number] + F[1:]), False)
            with self.assertRaises(InvalidSectionError):
                plans.around(P, number)
            with self.assertRaises(InvalidClicksError):
                clicks.first_hidden(P, F, [number])
            with self.assertRaises(InvalidSectionsError):
                tours.count_tours(P, F, [number])
            with self.assertRaises(InvalidNumberError):
                layers.nth_at(P, F, number, 0)
            with self.assertRaises(InvalidClicksError):
                effects.effect_of(P, [number])
            with self.assertRaises(InvalidNumberError):
                effects.effect_of_rounds(P, [4], number)
            with self.assertRaises(InvalidViewsError):
                views.clicks_of(P, [VIEW_F[:2] + [(number, False)]])
            with self.assertRaises(InvalidClicksError):
                menu.Menu(P).click(number)
            self.assertIs(shortest.is_shortest(P, F, G, [number] * 7), False)
        for call in (lambda index: states.nth_state(P, index), lambda index: shortest.nth_shortest(P, F, G, index),
                     lambda index: layers.nth_at(P, F, 3, index), lambda index: tours.nth_tour(P, F, [3], index),
                     lambda index: effects.nth_start(P, [4], index), lambda index: views.nth_alike(P, F, index)):
            for index in (10 ** 80 - 1, 1 - 10 ** 80):
                with self.assertRaises(InvalidNumberError):
                    call(index)


class LimitsTest(unittest.TestCase):
    def test_forty_sections(self):
        for plan in LARGE_PLANS:
            last = states.nth_state(plan, states.count_states(plan) - 1)
            for section in range(40):
                self.assertEqual(plans.around(plan, section)[:1], [0][:section])
            for section in states.visible_headers(plan, last):
                self.assertEqual(len(clicks.after_clicks(plan, last, section)), 40)
        self.assertEqual(plans.around(CHAIN, 39), list(range(39)))

    def test_more_than_twenty_headers(self):
        self.assertEqual(clicks.after_clicks(P, F, *([1] * 21)), [1] + F[1:])
        self.assertEqual(clicks.after_clicks(P, F, *([1] * 300)), F)
        self.assertEqual(menu.Menu(P).click(*([1] * 300)), [True] * 300)

    def test_strings_of_four_thousand_characters(self):
        for sign in (" ", "(", ")", "~", "\n", "o", "0", ":"):
            with self.assertRaises(InvalidFormatError):
                text.parse_plan(sign * 4000)
            with self.assertRaises(InvalidFormatError):
                text.parse_state(P, sign * 4000)
            with self.assertRaises(InvalidFormatError):
                menu.Menu.read(sign * 4000)


class OrderTest(unittest.TestCase):
    """If several arguments are invalid, the first one tells the error."""

    def test_plan_before_section(self):
        functions = [plans.parent_of, plans.group_of, plans.around, plans.sections_within, plans.plan_without]
        for function in functions:
            for section in (NO_SECTION, 0, None):
                with self.assertRaises(InvalidPlanError):
                    function(NO_PLAN, section)

    def test_plan_before_all_others(self):
        for call in (lambda: states.is_state(NO_PLAN, NO_STATE), lambda: states.nth_state(NO_PLAN, -1),
                     lambda: states.state_rank(NO_PLAN, NO_STATE), lambda: states.shown_sections(NO_PLAN, NO_STATE),
                     lambda: states.visible_headers(NO_PLAN, NO_STATE),
                     lambda: clicks.after_clicks(NO_PLAN, NO_STATE, 0),
                     lambda: clicks.first_hidden(NO_PLAN, NO_STATE, [0]),
                     lambda: list(clicks.steps(NO_PLAN, NO_STATE, [0])),
                     lambda: clicks.back_click(NO_PLAN, NO_STATE, 0),
                     lambda: clicks.clicks_between(NO_PLAN, NO_STATE, NO_STATE)):
            with self.assertRaises(InvalidPlanError):
                call()

    def test_state_before_clicks_and_section(self):
        for call in (lambda: clicks.after_clicks(P, NO_STATE, 0), lambda: clicks.first_hidden(P, NO_STATE, [0]),
                     lambda: list(clicks.steps(P, NO_STATE, [0])), lambda: clicks.back_click(P, NO_STATE, 0),
                     lambda: clicks.back_click(P, NO_STATE, NO_SECTION),
                     lambda: clicks.clicks_between(P, NO_STATE, NO_STATE)):
            with self.assertRaises(InvalidStateError):
                call()

    def test_plan_before_goals_sections_and_numbers(self):
        bad = NO_STATE
        for call in (lambda: distances.distance(NO_PLAN, bad, bad), lambda: distances.walks(NO_PLAN, bad, bad),
                     lambda: distances.working_sections(NO_PLAN, bad, bad),
                     lambda: distances.nearer_clicks(NO_PLAN, bad, bad),
                     lambda: shortest.count_shortest(NO_PLAN, bad, bad),
                     lambda: shortest.nth_shortest(NO_PLAN, bad, bad, NO_NUMBER),
                     lambda: shortest.shortest_rank(NO_PLAN, bad, bad, [0]),
                     lambda: shortest.is_shortest(NO_PLAN, bad, bad, [0]),
                     lambda: layers.numbers_by_distance(NO_PLAN, bad), lambda: layers.farthest(NO_PLAN, bad),
                     lambda: layers.nth_at(NO_PLAN, bad, NO_NUMBER, NO_NUMBER),
                     lambda: layers.rank_at(NO_PLAN, bad, bad),
                     lambda: tours.fewest_to_show(NO_PLAN, bad, NO_SECTIONS),
                     lambda: tours.count_tours(NO_PLAN, bad, NO_SECTIONS),
                     lambda: tours.nth_tour(NO_PLAN, bad, NO_SECTIONS, NO_NUMBER),
                     lambda: tours.is_tour(NO_PLAN, bad, NO_SECTIONS, [0])):
            with self.assertRaises(InvalidPlanError):
                call()

    def test_state_and_goal_before_numbers_values_and_sections(self):
        bad = NO_STATE
        for call in (lambda: shortest.nth_shortest(P, bad, F, NO_NUMBER),
                     lambda: shortest.nth_shortest(P, F, bad, NO_NUMBER),
                     lambda: shortest.shortest_rank(P, bad, F, [0]), lambda: shortest.shortest_rank(P, F, bad, [0]),
                     lambda: shortest.is_shortest(P, F, bad, [0]), lambda: layers.nth_at(P, bad, NO_NUMBER, NO_NUMBER),
                     lambda: tours.fewest_to_show(P, bad, NO_SECTIONS), lambda: tours.count_tours(P, bad, NO_SECTIONS),
                     lambda: tours.nth_tour(P, bad, NO_SECTIONS, NO_NUMBER),
                     lambda: tours.is_tour(P, bad, NO_SECTIONS, [0])):
            with self.assertRaises(InvalidStateError):
                call()

    def test_plan_before_clicks_views_and_strings(self):
        for call in (lambda: effects.effect_of(NO_PLAN, [0]), lambda: effects.effect_of_rounds(NO_PLAN, [0], -1),
                     lambda: effects.same_effect(NO_PLAN, [0], [0]), lambda: effects.count_starts(NO_PLAN, [0]),
                     lambda: effects.nth_start(NO_PLAN, [0], -1), lambda: effects.count_ends(NO_PLAN, [0]),
                     lambda: views.view_of(NO_PLAN, NO_STATE), lambda: views.is_view(NO_PLAN, None),
                     lambda: views.count_alike(NO_PLAN, NO_STATE), lambda: views.nth_alike(NO_PLAN, NO_STATE, -1),
                     lambda: views.clicks_of(NO_PLAN, []), lambda: views.count_beginnings(NO_PLAN, []),
                     lambda: views.known_settings(NO_PLAN, []), lambda: text.format_plan(NO_PLAN),
                     lambda: text.format_state(NO_PLAN, NO_STATE), lambda: text.parse_state(NO_PLAN, None)):
            with self.assertRaises(InvalidPlanError):
                call()

    def test_clicks_and_state_before_numbers(self):
        for call in (lambda: effects.effect_of_rounds(P, [0], -1), lambda: effects.nth_start(P, [0], -1),
                     lambda: effects.effect_of_rounds(P, [True], None)):
            with self.assertRaises(InvalidClicksError):
                call()
        with self.assertRaises(InvalidStateError):
            views.nth_alike(P, NO_STATE, -1)

    def test_each_of_two_click_lists(self):
        for first, second in (([0], []), ([], [0]), ([0], [0]), (None, []), ([], None)):
            with self.assertRaises(InvalidClicksError):
                effects.same_effect(P, first, second)

    def test_views_before_whether_they_fit(self):
        with self.assertRaises(InvalidViewsError):
            views.known_settings(P, [VIEW_F, VIEW_F, []])
        with self.assertRaises(NotFittingError):
            views.known_settings(P, [VIEW_F, VIEW_F])

    def test_sections_before_index(self):
        with self.assertRaises(InvalidSectionsError):
            tours.nth_tour(P, F, NO_SECTIONS, NO_NUMBER)
        with self.assertRaises(InvalidNumberError):
            tours.nth_tour(P, F, [1], NO_NUMBER)

    def test_click_list_before_hidden_headers(self):
        for call in (lambda: clicks.after_clicks(P, F, 2, 0), lambda: clicks.first_hidden(P, F, [2, NO_SECTION]),
                     lambda: list(clicks.steps(P, F, [2, True]))):
            with self.assertRaises(InvalidClicksError):
                call()

    def test_section_before_hidden_header(self):
        for section in (0, NO_SECTION, -2, True):
            with self.assertRaises(InvalidSectionError):
                clicks.back_click(P, F, section)
        with self.assertRaises(HiddenError):
            clicks.back_click(P, F, 2)

    def test_each_error_has_exactly_one_class(self):
        for call, error in ((lambda: plans.parent_of(NO_PLAN, 0), InvalidPlanError),
                            (lambda: states.state_rank(P, NO_STATE), InvalidStateError),
                            (lambda: plans.parent_of(P, NO_SECTION), InvalidSectionError),
                            (lambda: states.nth_state(P, 72), InvalidNumberError),
                            (lambda: clicks.first_hidden(P, F, [0]), InvalidClicksError),
                            (lambda: clicks.after_clicks(P, F, 2), HiddenError),
                            (lambda: distances.distance(P, F, NO_STATE), InvalidStateError),
                            (lambda: shortest.shortest_rank(P, F, G, []), InvalidClicksError),
                            (lambda: shortest.nth_shortest(P, F, G, 2), InvalidNumberError),
                            (lambda: layers.nth_at(P, F, 9, 0), InvalidNumberError),
                            (lambda: layers.nth_at(P, F, -1, 0), InvalidNumberError),
                            (lambda: tours.count_tours(P, F, [2, 1]), InvalidSectionsError),
                            (lambda: tours.nth_tour(P, F, [], 1), InvalidNumberError),
                            (lambda: effects.effect_of(P, [0]), InvalidClicksError),
                            (lambda: effects.effect_of_rounds(P, [4], -1), InvalidNumberError),
                            (lambda: effects.effect_of_rounds(P, [4], 10 ** 30 + 1), InvalidNumberError),
                            (lambda: effects.nth_start(P, [4, 6], 54), InvalidNumberError),
                            (lambda: views.nth_alike(P, G, 6), InvalidNumberError),
                            (lambda: views.clicks_of(P, []), InvalidViewsError),
                            (lambda: views.count_beginnings(P, [[]]), InvalidViewsError),
                            (lambda: views.known_settings(P, [VIEW_F, VIEW_F]), NotFittingError),
                            (lambda: text.parse_plan("one()"), InvalidFormatError),
                            (lambda: text.parse_state(P, ""), InvalidFormatError),
                            (lambda: menu.Menu(NO_PLAN), InvalidPlanError),
                            (lambda: menu.Menu.read(""), InvalidFormatError),
                            (lambda: menu.Menu(P).click(0), InvalidClicksError),
                            (lambda: menu.Menu(P).click(2), HiddenError),
                            (lambda: menu.Menu(P).tried(2), HiddenError),
                            (lambda: menu.Menu(P).show(11), InvalidSectionError),
                            (lambda: menu.Menu(P).undo(), EmptyHistoryError)):
            with self.assertRaises(ValueError) as caught:
                call()
            self.assertIs(type(caught.exception), error)
            self.assertIsInstance(caught.exception, AccordionsError)


if __name__ == "__main__":
    unittest.main()
