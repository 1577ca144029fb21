"""Points 24, 25 and 26: menus of all four classes."""

import inspect
import unittest
from collections import Counter
from copy import deepcopy
from random import Random

from accordions import menu as menus
from accordions.errors import (EmptyHistoryError, HiddenError, InvalidClicksError, InvalidFormatError, InvalidPlanError,
                               InvalidSectionError)
from accordions.menu import CountingMenu, ForgetfulCountingMenu, ForgetfulMenu, Menu
from accordions.plans import KINDS
from accordions.text import format_plan
from tests import definitions, searches
from tests.examples import (CHAINS, F, LARGE_PLANS, O, ONES, P, PAGE, PAIRS, STEPS, TABS, Agreeable, SubList,
                            other_kinds, small_shapes, typical_plans, wrong_plans, wrong_sections)

CLASSES = (Menu, ForgetfulMenu, CountingMenu, ForgetfulCountingMenu)
FORGETFUL = (ForgetfulMenu, ForgetfulCountingMenu)
COUNTING = (CountingMenu, ForgetfulCountingMenu)
METHODS = {"click": ["self", "headers"], "show": ["self", "section"], "tried": ["self", "headers"], "report": ["self"],
           "undo": ["self"], "twin": ["self"]}
PROPERTIES = ("plan", "state", "shown", "visible", "pressed")
# Values of other kinds, the empty string and an object that is equal to everything among them.
NO_WORDS = [value for value in other_kinds() if type(value) != str or value == ""]


class Model:
    """What the document says of a menu, from the definitions."""

    def __init__(self, kind, plan):
        self.kind, self.plan, self.calls = kind, plan, []
        self.states = [definitions.first_state(plan)]

    def way(self, clicks):
        """The states now and after each click, or the turn of the first hidden header."""
        rows = [self.states[-1]]
        after = definitions.after_forgetful_click if self.kind in FORGETFUL else definitions.after_click
        for turn, section in enumerate(clicks):
            if not definitions.is_visible(self.plan, rows[-1], section):
                return turn
            rows.append(after(self.plan, rows[-1], section))
        return rows

    def make(self, clicks):
        """Make clicks that work as one call, and tell which of them changed a setting."""
        rows = self.way(clicks)
        self.calls.append(list(clicks))
        self.states.append(rows[-1])
        return [before != after for before, after in zip(rows, rows[1:])]

    def way_to(self, section):
        """The clicks that show a section: those that open what is closed, from the top down."""
        clicks = []
        for inner in definitions.around(self.plan, section)[1:] + [section] if section != 0 else []:
            outer = definitions.parent(self.plan, inner)
            setting = self.states[-1][outer]
            if self.plan[outer][1] == "step":
                turn = 1 if setting < inner else -1
                clicks += [other for other in definitions.group(self.plan, outer)[::turn]
                           if setting * turn < other * turn <= inner * turn]
            elif setting != inner:
                clicks.append(inner)
        return clicks

    def told(self):
        """All that the properties, `report` and `len` tell."""
        state, size = self.states[-1], range(len(self.plan))
        shown = [section for section in size if definitions.is_shown(self.plan, state, section)]
        pressed = [section for clicks in self.calls for section in clicks]
        report = ["shown " + str(len(shown))]
        report += ["clicks " + str(len(pressed))] if self.kind in COUNTING else []
        report += ["forgets"] if self.kind in FORGETFUL else []
        return {"plan": self.plan, "state": state, "shown": shown, "pressed": pressed, "report": report,
                "visible": [section for section in size if definitions.is_visible(self.plan, state, section)],
                "counts": sorted(Counter(pressed).items()) if self.kind in COUNTING else None, "len": len(self.plan)}


def told(menu):
    found = {name: getattr(menu, name) for name in PROPERTIES}
    counts = menu.counts if type(menu) in COUNTING else None
    return {**found, "report": menu.report(), "counts": counts, "len": len(menu)}


class ModelTest(unittest.TestCase):
    """Menus and models side by side."""

    def assert_agrees(self, menu, model):
        self.assertEqual(told(menu), model.told(), (model.kind, model.plan, model.calls))

    def assert_click(self, menu, model, clicks):
        way = model.way(clicks)
        if isinstance(way, int):
            for call in (menu.tried, menu.click):
                with self.assertRaises(HiddenError) as caught:
                    call(*clicks)
                self.assertEqual(caught.exception.turn, way)
                self.assert_agrees(menu, model)
        else:
            changes = [before != after for before, after in zip(way, way[1:])]
            self.assertEqual(menu.tried(*clicks), changes)
            self.assert_agrees(menu, model)
            self.assertEqual(menu.click(*clicks), changes)
            self.assertEqual(model.make(clicks), changes)

    def assert_show(self, menu, model, section):
        way = model.way_to(section)
        self.assertEqual(menu.show(section), way)
        model.make(way)
        self.assertIn(section, menu.shown)

    def assert_undo(self, menu, model):
        if model.calls:
            self.assertIsNone(menu.undo())
            model.calls.pop()
            model.states.pop()
        else:
            with self.assertRaises(EmptyHistoryError):
                menu.undo()

    def some_clicks(self, model, chance):
        """A list that works most of the time."""
        clicks, state = [], model.states[-1]
        after = definitions.after_forgetful_click if model.kind in FORGETFUL else definitions.after_click
        for _ in range(chance.randrange(5)):
            headers = [section for section, _ in searches.clicks_from(model.plan, state)]
            if headers:
                clicks.append(chance.choice(headers))
                state = after(model.plan, state, clicks[-1])
        if len(model.plan) > 1 and chance.randrange(4) == 0:
            clicks.append(chance.randrange(1, len(model.plan)))
        return clicks

    def make_calls(self, kind, plan, chance, many):
        menu, model = kind(plan), Model(kind, plan)
        self.assert_agrees(menu, model)
        for _ in range(many):
            choice = chance.randrange(8)
            if choice < 4:
                self.assert_click(menu, model, self.some_clicks(model, chance))
            elif choice < 6:
                self.assert_show(menu, model, chance.randrange(len(plan)))
            else:
                self.assert_undo(menu, model)
            self.assert_agrees(menu, model)
            self.assertTrue(menu == menu.twin())
        return menu, model

    def test_small_plans(self):
        chance = Random(26)
        for plan in small_shapes(5):
            for kind in CLASSES:
                self.make_calls(kind, plan, chance, 5)

    def test_typical_plans(self):
        chance = Random(27)
        for plan in [*typical_plans(), PAGE]:
            for kind in CLASSES:
                menu, model = self.make_calls(kind, plan, chance, 40)
                while model.calls:
                    self.assert_undo(menu, model)
                    self.assert_agrees(menu, model)
                self.assert_undo(menu, model)
                self.assert_agrees(menu, model)

    def test_large_plans(self):
        chance = Random(28)
        for plan in (*LARGE_PLANS, CHAINS[0], *PAIRS):
            for kind in (Menu, ForgetfulCountingMenu):
                self.make_calls(kind, plan, chance, 5)

    def test_three_hundred_calls(self):
        for kind in CLASSES:
            menu, model = kind(P), Model(kind, P)
            # 180 calls here, and 120 that revert them below.
            for turn in range(60):
                for clicks in ([4, 7, 9, 8], [1, 2]):
                    self.assertEqual(menu.click(*clicks), model.make(clicks))
                if turn % 2 == 0:
                    self.assert_undo(menu, model)
                    self.assert_show(menu, model, 10)
            self.assert_agrees(menu, model)
            while model.calls:
                self.assert_undo(menu, model)
            self.assert_agrees(menu, model)
            self.assertEqual([menu.state, menu.pressed], [F, []])

    def test_three_hundred_clicks_at_once(self):
        for kind in CLASSES:
            menu, model = kind(P), Model(kind, P)
            clicks = [1, 2, 4, 7, 9, 8] * 50
            self.assertEqual(menu.click(*clicks), model.make(clicks))
            self.assert_agrees(menu, model)
            with self.assertRaises(InvalidClicksError):
                menu.click(*([1] * 301))
            self.assert_agrees(menu, model)


class ExampleTest(unittest.TestCase):
    def test_menu(self):
        menu = Menu(P)
        found = [menu.click(7, 9, 9, 1), menu.state[:8], menu.show(10), menu.shown, menu.pressed]
        self.assertEqual(found[:2], [[True, True, False, True], [1, 0, 0, 0, 5, 0, 0, 9]])
        self.assertEqual(found[2:], [[7, 10], [0, 7, 10], [7, 9, 9, 1, 7, 10]])

    def test_forgetful_counting_menu(self):
        other = ForgetfulCountingMenu(P)
        self.assertEqual([other.click(7, 9, 1), other.show(10), other.counts, other.report()],
                         [[True, True, True], [7, 9, 10], [(1, 1), (7, 2), (9, 2), (10, 1)],
                          ['shown 3', 'clicks 6', 'forgets']])


class InterfaceTest(unittest.TestCase):
    def test_each_class_has_all_in_its_own_body(self):
        for kind in CLASSES:
            body = vars(kind)
            self.assertEqual([kind.__module__, kind.__name__], ["accordions.menu", kind.__name__])
            self.assertIs(getattr(menus, kind.__name__), kind)
            for name, parameters in METHODS.items():
                self.assertTrue(inspect.isfunction(body[name]), (kind, name))
                self.assertEqual(list(inspect.signature(body[name]).parameters), parameters)
            for name in PROPERTIES + (("counts",) if kind in COUNTING else ()):
                self.assertIsInstance(body[name], property)
            self.assertIsInstance(body["is_kind"], staticmethod)
            self.assertIsInstance(body["read"], classmethod)
            self.assertEqual(list(inspect.signature(kind.is_kind).parameters), ["value"])
            self.assertEqual(list(inspect.signature(kind.read).parameters), ["text"])
            self.assertEqual(list(inspect.signature(kind).parameters), ["plan"])
            for name in ("__init__", "__eq__", "__len__"):
                self.assertTrue(inspect.isfunction(body[name]), (kind, name))

    def test_only_counting_menus_have_counts(self):
        self.assertEqual([hasattr(kind(P), "counts") for kind in CLASSES], [False, False, True, True])

    def test_which_class_is_a_subclass_of_which(self):
        found = [(kind.__name__, other.__name__) for kind in CLASSES for other in CLASSES if issubclass(kind, other)]
        self.assertEqual(found, [
            ("Menu", "Menu"), ("ForgetfulMenu", "Menu"), ("ForgetfulMenu", "ForgetfulMenu"), ("CountingMenu", "Menu"),
            ("CountingMenu", "CountingMenu"), ("ForgetfulCountingMenu", "Menu"),
            ("ForgetfulCountingMenu", "ForgetfulMenu"), ("ForgetfulCountingMenu", "CountingMenu"),
            ("ForgetfulCountingMenu", "ForgetfulCountingMenu")])

    def test_headers_stand_behind_a_star(self):
        for kind in CLASSES:
            for name in ("click", "tried"):
                found = list(inspect.signature(vars(kind)[name]).parameters.values())[1]
                self.assertEqual(found.kind, inspect.Parameter.VAR_POSITIONAL)

    def test_kinds(self):
        for kind in CLASSES:
            for holder in (kind, kind(P)):
                self.assertEqual([type(holder.KINDS), holder.KINDS], [tuple, ("one", "tab", "step")])
        self.assertEqual(Menu.KINDS, KINDS)

    def test_is_kind_of_any_value(self):
        for kind in CLASSES:
            for holder in (kind, kind(PAGE)):
                for word in ("one", "tab", "step"):
                    self.assertIs(holder.is_kind(word), True)
                for value in NO_WORDS + ["One", "tab ", " step", "o", "two", "one tab", b"one", ["one"], ("one",),
                                         {"one": 1}, 0, 1, [], ("one", "tab", "step"), "onetab"]:
                    self.assertIs(holder.is_kind(value), False, value)
                self.assertIs(holder.is_kind(value="tab"), True)

    def test_arguments_by_name(self):
        for kind in CLASSES:
            self.assertEqual(kind(plan=P).show(section=1), [1])
            self.assertEqual(kind.read(text="one(tab)").plan, [(0, O), (1, "tab")])

    def test_properties_cannot_be_set(self):
        for kind in CLASSES:
            menu = kind(P)
            for name in PROPERTIES + (("counts",) if kind in COUNTING else ()):
                with self.assertRaises(AttributeError):
                    setattr(menu, name, [])


class ClickTest(unittest.TestCase):
    def test_changes(self):
        for kind in CLASSES:
            menu = kind(P)
            changes = menu.click(4, 5, 6, 6, 7, 8, 9, 7, 7)
            self.assertEqual(changes, [True, False, True, False, True, False, True, True, True])
            self.assertEqual([type(changes)] + [type(item) for item in changes], [list] + [bool] * 9)

    def test_no_header(self):
        for kind in CLASSES:
            menu = kind(P)
            self.assertEqual([menu.click(), menu.tried(), menu.pressed, menu.state], [[], [], [], F])
            self.assertIsNone(menu.undo())
            with self.assertRaises(EmptyHistoryError):
                menu.undo()

    def test_hidden_header_clicks_nothing(self):
        for kind in CLASSES:
            menu = kind(P)
            menu.click(1, 3)
            before = told(menu)
            for clicks, turn in (((8,), 0), ((7, 10), 1), ((2, 1, 7, 9, 10, 2), 5), ((1, 1, 4, 3), 3)):
                for call in (menu.click, menu.tried):
                    with self.assertRaises(HiddenError) as caught:
                        call(*clicks)
                    self.assertEqual([caught.exception.turn, type(caught.exception.turn)], [turn, int])
                    self.assertEqual(told(menu), before)
            menu.undo()
            self.assertEqual([menu.state, menu.pressed], [F, []])
            with self.assertRaises(EmptyHistoryError):
                menu.undo()

    def test_wrong_headers_click_nothing(self):
        for kind in CLASSES:
            menu = kind(P)
            menu.click(1)
            before = told(menu)
            for value in [0] + wrong_sections(P):
                for clicks in ((value,), (1, value), (3, 2, 7, value), (10, value)):
                    for call in (menu.click, menu.tried):
                        with self.assertRaises(InvalidClicksError, msg=value):
                            call(*clicks)
                        self.assertEqual(told(menu), before)
            with self.assertRaises(InvalidClicksError):
                kind(PAGE).click(0)

    def test_tried_changes_nothing(self):
        for kind in CLASSES:
            menu = kind(P)
            menu.click(7, 9)
            twin, before = menu.twin(), told(menu)
            self.assertEqual([menu.tried(8), menu.tried(9, 9, 1, 2), menu.tried(9), menu.tried()],
                             [[True], [False, False, True, True], [False], []])
            self.assertEqual([told(menu), menu == twin], [before, True])
            menu.undo()
            self.assertEqual(menu.state, F)

    def test_twenty_headers(self):
        for kind in CLASSES:
            menu = kind(TABS)
            self.assertEqual(menu.click(*range(20, 40)), [True] * 20)
            self.assertEqual([menu.state[0], menu.pressed], [39, list(range(20, 40))])


class ShowTest(unittest.TestCase):
    def test_the_only_shortest_list_in_all_states(self):
        for plan in [*small_shapes(4), [(0, "step"), (1, O), (1, "step"), (2, O), (2, "tab"), (3, O), (3, O), (1, O)]]:
            moves = searches.graph(plan)
            for state in definitions.states(plan):
                for section in range(len(plan)):
                    lists = searches.tours(plan, moves, state, [section])
                    self.assertEqual(len(lists), 1)
                    menu = Menu(plan)
                    menu.click(*searches.shortest_lists(moves, menu.state, state)[0])
                    self.assertEqual(menu.state, state)
                    self.assertEqual(menu.show(section), lists[0])
                    self.assertIn(section, menu.shown)

    def test_shown_already(self):
        for kind in CLASSES:
            menu = kind(P)
            menu.click(7, 9)
            before = told(menu)
            for section in (0, 7, 9):
                self.assertEqual(menu.show(section), [])
                self.assertEqual(told(menu), before)
            for _ in range(3):
                menu.undo()
                self.assertEqual(told(menu), before)
            menu.undo()
            self.assertEqual([menu.state, menu.pressed], [F, []])

    def test_page_alone(self):
        for kind in CLASSES:
            menu = kind(PAGE)
            self.assertEqual([menu.show(0), menu.click(), menu.state, menu.shown, menu.visible], [[], [], [0], [0], []])
            menu.undo()
            menu.undo()
            with self.assertRaises(EmptyHistoryError):
                menu.undo()

    def test_forgetful_menu_takes_the_list_of_a_menu(self):
        # Two clicks on section 1 would bring the steps back to the first one, but it is gone to step by step.
        plan = [(0, O), (1, "step")] + [(2, O)] * 6
        for kind in CLASSES:
            menu = kind(plan)
            menu.click(1, 3, 4, 5, 6, 7)
            self.assertEqual(menu.show(2), [6, 5, 4, 3, 2])
        for kind in FORGETFUL:
            menu = kind(plan)
            menu.click(1, 3, 4, 5, 6, 7, 1)
            self.assertEqual([menu.show(7), menu.shown], [[1, 3, 4, 5, 6, 7], [0, 1, 7]])
        for kind in (Menu, CountingMenu):
            menu = kind(plan)
            menu.click(1, 3, 4, 5, 6, 7, 1)
            self.assertEqual([menu.show(7), menu.shown], [[1], [0, 1, 7]])

    def test_wrong_sections_change_nothing(self):
        for kind in CLASSES:
            menu = kind(P)
            menu.click(1, 3)
            before = told(menu)
            for value in wrong_sections(P):
                with self.assertRaises(InvalidSectionError, msg=value):
                    menu.show(value)
                self.assertEqual(told(menu), before)
            menu.undo()
            self.assertEqual(menu.state, F)

    def test_long_ways(self):
        for kind in CLASSES:
            self.assertEqual(kind(STEPS).show(39), list(range(2, 40)))
            self.assertEqual(kind(CHAINS[0]).show(39), list(range(1, 40)))
            self.assertEqual(kind(CHAINS[1]).show(39), [])
            self.assertEqual(kind(ONES).show(20), [20])


class UndoTest(unittest.TestCase):
    def test_calls_are_reverted_from_the_last(self):
        for kind in CLASSES:
            menu = kind(P)
            rows = [told(menu)]
            for call in (lambda: menu.click(7, 9), lambda: menu.show(3), lambda: menu.click(), lambda: menu.show(3),
                         lambda: menu.click(4, 4, 4), lambda: menu.show(10)):
                call()
                rows.append(told(menu))
            while rows[1:]:
                self.assertEqual(told(menu), rows.pop())
                self.assertIsNone(menu.undo())
            self.assertEqual(told(menu), rows[0])
            with self.assertRaises(EmptyHistoryError):
                menu.undo()
            self.assertEqual(told(menu), rows[0])

    def test_reverted_calls_do_not_count(self):
        for kind in COUNTING:
            menu = kind(P)
            menu.click(1, 2)
            menu.click(7, 9, 9)
            menu.undo()
            self.assertEqual([menu.pressed, menu.counts], [[1, 2], [(1, 1), (2, 1)]])
            menu.click(2)
            self.assertEqual([menu.pressed, menu.counts, menu.report()[1]], [[1, 2, 2], [(1, 1), (2, 2)], "clicks 3"])
            menu.undo()
            menu.undo()
            self.assertEqual([menu.pressed, menu.counts, menu.report()[1]], [[], [], "clicks 0"])

    def test_a_new_menu_has_nothing_to_revert(self):
        for kind in CLASSES:
            for menu in (kind(P), kind(PAGE), kind.read("one(tab)"), kind(P).twin()):
                with self.assertRaises(EmptyHistoryError):
                    menu.undo()

    def test_what_was_forgotten_comes_back(self):
        for kind in FORGETFUL:
            menu = kind(P)
            menu.click(7, 9, 10)
            menu.click(1)
            self.assertEqual(menu.state, [1] + F[1:])
            menu.undo()
            self.assertEqual([menu.state, menu.shown], [[7, 0, 0, 0, 5, 0, 0, 10, 0, 0, 0], [0, 7, 10]])


class TwinTest(unittest.TestCase):
    def test_equal_and_of_the_same_class(self):
        for kind in CLASSES:
            menu = kind(P)
            menu.click(7, 9)
            menu.show(3)
            twin = menu.twin()
            self.assertIs(type(twin), kind)
            self.assertIsNot(twin, menu)
            self.assertEqual([told(twin), menu == twin, twin == menu, menu != twin], [told(menu), True, True, False])

    def test_independent_in_both_directions(self):
        for kind in CLASSES:
            menu = kind(P)
            menu.click(7, 9)
            twin, before = menu.twin(), told(menu)
            twin.click(1)
            self.assertEqual([told(menu), menu == twin], [before, False])
            changed = told(twin)
            menu.click(4)
            menu.undo()
            menu.undo()
            self.assertEqual([told(twin), menu.state], [changed, F])
            twin.undo()
            self.assertEqual(told(twin), before)

    def test_same_calls_to_revert(self):
        for kind in CLASSES:
            menu = kind(P)
            menu.click(7, 9)
            menu.click()
            menu.show(3)
            twin = menu.twin()
            for _ in range(3):
                menu.undo()
                twin.undo()
                self.assertEqual([told(twin), twin == menu], [told(menu), True])
            for one in (menu, twin):
                with self.assertRaises(EmptyHistoryError):
                    one.undo()

    def test_twin_of_a_class_below(self):
        for kind in CLASSES:
            class Own(kind):
                pass

            menu = Own(P)
            menu.click(1)
            self.assertEqual([type(menu.twin()), menu.twin() == menu, type(Own.read("one"))], [Own, True, Own])
            other = kind(P)
            other.click(1)
            self.assertEqual([menu == other, other == menu], [False, False])


class EqualityTest(unittest.TestCase):
    def test_menus_of_other_classes(self):
        for clicks in ((), (1, 3)):
            for kind in CLASSES:
                for other in CLASSES:
                    first, second = kind(P), other(P)
                    first.click(*clicks)
                    second.click(*clicks)
                    self.assertIs(first == second, kind == other)
                    self.assertIs(first != second, kind != other)

    def test_plan_state_and_pressed(self):
        for kind in CLASSES:
            def clicked(*calls, plan=P):
                menu = kind(plan)
                for clicks in calls:
                    menu.click(*clicks)
                return menu

            self.assertEqual(clicked((1,), (3,)), clicked((1, 3)))
            self.assertEqual(clicked((), (1,), ()), clicked((1,)))
            self.assertNotEqual(clicked((1, 3)), clicked((1, 2)))
            self.assertNotEqual(clicked((1, 3)), clicked((1, 2, 3)))
            self.assertNotEqual(clicked((1, 1)), clicked())
            self.assertNotEqual(clicked((1, 1)), clicked((4, 4)))
            self.assertNotEqual(clicked(), clicked(plan=P[:-1]))
            self.assertNotEqual(clicked(plan=[(0, O), (1, O)]), clicked(plan=[(0, O), (1, "tab")]))
            menu = clicked((1,), (3,))
            menu.undo()
            self.assertEqual(menu, clicked((1,)))

    def test_show_and_click_are_not_told_apart(self):
        for kind in CLASSES:
            first, second = kind(P), kind(P)
            first.show(9)
            second.click(7)
            second.click(9)
            self.assertIs(first == second, True)

    def test_other_values(self):
        for kind in CLASSES:
            menu = kind(P)
            for value in other_kinds() + [[], P, F, 11, kind, menu.plan, [menu], menu.state, 0]:
                self.assertIs(menu == value, False, value)
                self.assertIs(menu != value, True, value)

    def test_len(self):
        for kind in CLASSES:
            for plan in (PAGE, P, *LARGE_PLANS):
                self.assertEqual(len(kind(plan)), len(plan))
                self.assertTrue(kind(plan))


class PlanTest(unittest.TestCase):
    def test_plan_changed_after_it_was_handed_in(self):
        for kind in CLASSES:
            plan = list(P)
            menu = kind(plan)
            plan[7] = (1, O)
            plan.append((2, O))
            self.assertEqual([menu.plan, len(menu), menu.state], [P, 11, F])
            with self.assertRaises(HiddenError):
                menu.click(7, 10)
            plan.clear()
            self.assertEqual(menu.show(10), [7, 9, 10])

    def test_plan_is_not_changed(self):
        for kind in CLASSES:
            plan = deepcopy(P)
            menu = kind(plan)
            menu.click(7, 9, 1, 2)
            menu.undo()
            self.assertEqual(plan, P)

    def test_returned_lists_are_new(self):
        for kind in CLASSES:
            menu = kind(P)
            menu.click(7, 9)
            calls = [lambda name=name: getattr(menu, name) for name in PROPERTIES]
            calls += [menu.report, lambda: menu.tried(8), lambda: menu.twin().state]
            if kind in COUNTING:
                calls.append(lambda: menu.counts)
            before = told(menu)
            for call in calls:
                first = call()
                self.assertIs(type(first), list)
                expected = list(first)
                first.append("mark")
                first.reverse()
                self.assertEqual([call(), told(menu)], [expected, before])
            self.assertEqual([type(row) for row in menu.plan], [tuple] * 11)

    def test_lists_of_show_and_click_do_not_belong_to_the_menu(self):
        for kind in CLASSES:
            menu = kind(P)
            way = menu.show(10)
            way.clear()
            changes = menu.click(9)
            changes.clear()
            self.assertEqual([menu.pressed, menu.shown], [[7, 9, 10, 9], [0, 7, 9]])
            menu.undo()
            self.assertEqual(menu.pressed, [7, 9, 10])

    def test_a_state_that_was_told_stays(self):
        for kind in CLASSES:
            menu = kind(P)
            state, pressed = menu.state, menu.pressed
            menu.click(1)
            self.assertEqual([state, pressed], [F, []])

    def test_kinds_of_results(self):
        for kind in CLASSES:
            menu = kind(P)
            menu.click(7, 9)
            for row in (menu.state, menu.shown, menu.visible, menu.pressed, menu.twin().show(3)):
                self.assertEqual([type(item) for item in row], [int] * len(row))
            self.assertEqual([type(item) for item in menu.report()], [str] * len(menu.report()))
            for row in menu.counts if kind in COUNTING else []:
                self.assertEqual([type(row), type(row[0]), type(row[1])], [tuple, int, int])

    def test_wrong_plans(self):
        for kind in CLASSES:
            for plan in wrong_plans():
                with self.assertRaises(InvalidPlanError, msg=plan):
                    kind(plan)

    def test_read(self):
        for kind in CLASSES:
            for plan in (P, PAGE, *LARGE_PLANS, *typical_plans()):
                menu = kind.read(format_plan(plan))
                self.assertIs(type(menu), kind)
                self.assertEqual([menu == kind(plan), menu.plan, menu.pressed], [True, plan, []])
                self.assertEqual(menu.state, definitions.first_state(plan))
            self.assertIs(type(kind(P).read("tab")), kind)

    def test_read_of_other_values(self):
        for kind in CLASSES:
            for value in NO_WORDS + ["one()", "one ", " one", "one(tab", "one(tab))", "0:0", "One", P, SubList("one"),
                                     ["one"], "one(" + " ".join(["one"] * 40) + ")", "(" * 4000]:
                with self.assertRaises(InvalidFormatError, msg=value):
                    kind.read(value)


if __name__ == "__main__":
    unittest.main()
