"""Point 28: plans and states as strings."""

import unittest

from accordions.errors import InvalidFormatError, InvalidPlanError, InvalidStateError
from accordions.plans import is_plan
from accordions.states import count_states, first_state, nth_state
from accordions.text import format_plan, format_state, parse_plan, parse_state
from tests import definitions
from tests.examples import (CHAIN, CHAINS, F, G, KINDS, LARGE_PLANS, MIXED, O, ONES, P, PAGE, PAIRS, STEPS, Agreeable,
                            SubList, SubTuple, other_kinds, small_plans, small_shapes, typical_plans, wrong_plans)

TEXT = "one(one(one one) tab(one one) step(one one one))"
NO_STRINGS = [value for value in other_kinds() if not isinstance(value, str)] + [[TEXT], (TEXT,), list(TEXT), P, F,
                                                                                 TEXT.encode(), 0, 1, [], [""]]


class Word(str):
    pass


def near_strings(text, signs):
    """All strings with one sign of a string left out, doubled, replaced or put in before it, and some more."""
    for place in range(len(text) + 1):
        before, behind = text[:place], text[place:]
        yield before
        yield before + behind[1:]
        yield before + behind[:1] + behind
        for sign in signs:
            yield before + sign + behind
            yield before + sign + behind[1:]
        yield before + behind[1:2] + behind[:1] + behind[2:]


class PlanTest(unittest.TestCase):
    def assert_no_plan(self, text):
        with self.assertRaises(InvalidFormatError, msg=text):
            parse_plan(text)

    def test_examples(self):
        self.assertEqual(format_plan(P), TEXT)
        self.assertEqual(parse_plan("tab(one step)"), [(0, "tab"), (1, "one"), (1, "step")])

    def test_all_small_plans_written_and_read(self):
        for plan in small_plans(5):
            text = definitions.plan_text(plan)
            self.assertEqual(format_plan(plan), text)
            self.assertEqual(parse_plan(text), plan)

    def test_other_plans_written_and_read(self):
        for plan in (P, PAGE, *typical_plans(), *LARGE_PLANS, *CHAINS, *PAIRS):
            text = definitions.plan_text(plan)
            self.assertEqual(format_plan(plan), text)
            self.assertEqual(parse_plan(text), plan)

    def test_shapes(self):
        for text, plan in (("one", [(0, O)]), ("tab", [(0, "tab")]), ("step", [(0, "step")]),
                           ("one(tab)", [(0, O), (1, "tab")]), ("one(one one)", [(0, O), (1, O), (1, O)]),
                           ("one(one(one))", [(0, O), (1, O), (2, O)]),
                           ("one(one(one(one)) tab)", [(0, O), (1, O), (2, O), (3, O), (1, "tab")])):
            self.assertEqual([parse_plan(text), format_plan(plan)], [plan, text])
        self.assertEqual(format_plan(CHAINS[0]), "(".join(["one"] * 40) + ")" * 39)
        self.assertEqual(format_plan(STEPS), "step(" + " ".join(["one"] * 39) + ")")

    def test_strings_near_right_ones(self):
        right = {definitions.plan_text(plan): plan for plan in small_plans(5)}
        for plan in small_plans(4):
            for text in near_strings(definitions.plan_text(plan), " ()o"):
                if text in right:
                    self.assertEqual(parse_plan(text), right[text])
                else:
                    self.assert_no_plan(text)

    def test_spaces(self):
        for text in (" one", "one ", "\none", "one\n", "one ()", " ", "  ", "\n", "one (tab)", "one( tab)", "one(tab )",
                     "one(tab  tab)", "one(tab\ntab)", "one(tab\ttab)", "one(tab) ", "one(tab(one) )",
                     "one(tab(one)  tab)", "one(tab(one)tab)", "one(tab one", "one(tab (one))", "one\u00a0",
                     "one(tab\u00a0tab)", "one(tab\u2003tab)", "one(tab,tab)", "one(tab\x1ctab)", "o ne",
                     "one(tabtab)", "one(tab\r\ntab)"):
            self.assert_no_plan(text)

    def test_parentheses(self):
        for text in ("", "()", "one()", "one(())", "one(tab()", "(one)", "((one))", "one)", ")one(", "one(", "one(tab",
                     "one(tab))", "one((tab))", "one(tab)(tab)", "one(tab) tab", "one tab", "one(tab()tab)",
                     "one(()tab)", "one)tab(", ")(", "one(tab)one", "one(tab))(", "one[tab]", "one{tab}", "one(tab()) ",
                     "one(tab( ))"):
            self.assert_no_plan(text)

    def test_very_many_parentheses(self):
        for text in ("(" * 4000, ")" * 4000, "(" * 2000 + ")" * 2000, "one" + "(" * 3000 + "tab" + ")" * 900,
                     "one" + "(" * 1998 + ")" * 1998, "one(" * 999 + ")", "one(" * 500 + "one" + ")" * 500, "()" * 2000,
                     "one" + "()" * 1998, ")(" * 2000, "one)" * 1000, "one(" * 1000):
            self.assert_no_plan(text)

    def test_other_words(self):
        for word in ("One", "ONE", "on", "ones", "two", "tabs", "steps", "Tab", "0", "1", "none", "one1", "'one'",
                     "one,", "one:0", "-", "None", "True", "one\x00", "\uff4fne"):
            for text in (word, "one(" + word + ")", word + "(one)", "one(tab " + word + " step)"):
                self.assert_no_plan(text)

    def test_forty_sections_and_one_more(self):
        for kind in KINDS:
            flat = [kind] * 40
            self.assertEqual(len(parse_plan("one(" + " ".join(flat[:39]) + ")")), 40)
            self.assert_no_plan("one(" + " ".join(flat) + ")")
            self.assertEqual(len(parse_plan("(".join(flat) + ")" * 39)), 40)
            self.assert_no_plan("(".join(flat + [kind]) + ")" * 40)
        self.assert_no_plan("one(" + " ".join(["step"] * 790) + ")")

    def test_values_that_are_no_strings(self):
        for value in NO_STRINGS:
            self.assert_no_plan(value)

    def test_string_of_another_class(self):
        self.assertEqual(parse_plan(Word("tab(one)")), [(0, "tab"), (1, O)])
        self.assertIs(is_plan(parse_plan(Word("one"))), True)

    def test_kinds_and_new_lists(self):
        first = parse_plan(TEXT)
        self.assertIs(type(first), list)
        for row in first:
            self.assertEqual([type(row), type(row[0]), type(row[1])], [tuple, int, str])
        first.clear()
        self.assertEqual(parse_plan(TEXT), P)
        self.assertIs(type(format_plan(P)), str)

    def test_wrong_plans(self):
        for plan in wrong_plans():
            for call in (lambda: format_plan(plan), lambda: format_state(plan, F), lambda: parse_state(plan, "0:0")):
                with self.assertRaises(InvalidPlanError, msg=plan):
                    call()


class StateTest(unittest.TestCase):
    def assert_no_state(self, plan, text):
        with self.assertRaises(InvalidFormatError, msg=(plan, text)):
            parse_state(plan, text)

    def test_examples(self):
        self.assertEqual([format_state(P, G), parse_state([(0, O)], "")], ["0:1 1:3 4:6 7:10", [0]])
        self.assertEqual(parse_state(P, "0:1 1:3 4:6 7:10"), G)

    def test_all_states_of_small_plans_written_and_read(self):
        for plan in [*small_plans(4), *small_shapes(5), *typical_plans()]:
            for state in definitions.states(plan):
                text = definitions.state_text(plan, state)
                self.assertEqual(format_state(plan, state), text)
                self.assertEqual(parse_state(plan, text), state)

    def test_large_plans(self):
        for plan in (*LARGE_PLANS, *CHAINS, *PAIRS):
            total = count_states(plan)
            for state in (first_state(plan), nth_state(plan, total // 2), nth_state(plan, total - 1)):
                text = definitions.state_text(plan, state)
                self.assertEqual([format_state(plan, state), parse_state(plan, text)], [text, state])
        self.assertEqual(format_state(ONES, [39] + [0] * 39), "0:39")
        self.assertEqual(format_state(MIXED, first_state(MIXED))[:22], "0:1 1:0 4:5 7:8 10:0 1")

    def test_page_alone(self):
        for kind in KINDS:
            plan = [(0, kind)]
            self.assertEqual([format_state(plan, [0]), parse_state(plan, "")], ["", [0]])
            for text in (" ", "0", "0:0", ":", "0:", "\n", "0:1"):
                self.assert_no_state(plan, text)

    def test_strings_near_right_ones(self):
        plans = [P, *small_shapes(4), [(0, "tab")] + [(1, O)] * 12, [(0, "step"), (1, O), (2, O), (1, "tab"), (2, O)]]
        for plan in plans:
            right = {definitions.state_text(plan, state): state for state in definitions.states(plan)}
            for text in list(right)[::1 if len(plan) < 6 else 9]:
                for near in near_strings(text, " :0123\n-+"):
                    if near in right:
                        self.assertEqual(parse_state(plan, near), right[near])
                    else:
                        self.assert_no_state(plan, near)

    def test_spaces(self):
        for text in ("", " ", " 0:1 1:3 4:6 7:10", "0:1 1:3 4:6 7:10 ", "0:1  1:3 4:6 7:10", "0:1\n1:3 4:6 7:10",
                     "0:1 1:3 4:6 7:10\n", "0: 1 1:3 4:6 7:10", "0 :1 1:3 4:6 7:10", "0:1\t1:3 4:6 7:10",
                     "0:11:3 4:6 7:10", "0:1\u00a01:3 4:6 7:10", "0:1,1:3,4:6,7:10"):
            self.assert_no_state(P, text)

    def test_leading_zeros_and_signs(self):
        for text in ("0:01 1:3 4:6 7:10", "00:1 1:3 4:6 7:10", "0:1 01:3 4:6 7:10", "0:1 1:3 4:6 7:010",
                     "0:+1 1:3 4:6 7:10", "-0:1 1:3 4:6 7:10", "0:1 1:3 4:6 7:1_0", "0:1 1:3 4:6 7:\uff11\uff10",
                     "0:00 1:3 4:6 7:10", "0:1.0 1:3 4:6 7:10", "0:-0 1:3 4:6 7:10", "0:True 1:3 4:6 7:10",
                     "0x0:1 1:3 4:6 7:10"):
            self.assert_no_state(P, text)

    def test_groups_in_another_order_or_number(self):
        for text in ("1:3 0:1 4:6 7:10", "0:1 1:3 7:10 4:6", "7:10 4:6 1:3 0:1", "0:1 1:3 4:6", "1:3 4:6 7:10",
                     "0:1 1:3 4:6 7:10 7:10", "0:1 0:1 1:3 4:6 7:10", "0:1 1:3 4:6 7:10 8:0", "0:1 1:3 2:0 4:6 7:10",
                     "0:1 0:4 1:3 4:6 7:10", "0:1 1:3 1:2 4:6 7:10", "0:1 1:3 4:6 7:10 11:0"):
            self.assert_no_state(P, text)

    def test_settings_that_are_none(self):
        for text in ("0:2 1:3 4:6 7:10", "0:1 1:1 4:6 7:10", "0:1 1:3 4:0 7:10", "0:1 1:3 4:6 7:0", "0:1 1:3 4:7 7:10",
                     "0:1 1:3 4:6 7:11", "0:-1 1:3 4:6 7:10", "0:0 1:0 4:4 7:8", "0:1000000000 1:3 4:6 7:10",
                     "0:" + "9" * 3000 + " 1:3 4:6 7:10"):
            self.assert_no_state(P, text)

    def test_long_strings(self):
        for text in ("0:1 " * 1000, ":" * 4000, "0:1" * 1300, " " * 4000, "(" * 4000, "0" * 4000,
                     "0:1 1:3 4:6 7:10 " * 230):
            self.assert_no_state(P, text)
            self.assert_no_state(PAGE, text)

    def test_values_that_are_no_strings(self):
        for value in NO_STRINGS + [G, ["0:1", "1:3", "4:6", "7:10"]]:
            self.assert_no_state(P, value)
            self.assert_no_state(PAGE, value)

    def test_kinds_and_new_lists(self):
        first = parse_state(P, "0:1 1:3 4:6 7:10")
        self.assertEqual([type(first)] + [type(item) for item in first], [list] + [int] * 11)
        first.clear()
        self.assertEqual(parse_state(P, "0:1 1:3 4:6 7:10"), G)
        self.assertIs(type(format_state(P, G)), str)

    def test_wrong_states(self):
        wrong = other_kinds() + [[], F[:-1], F + [0], [2] + F[1:], [True] + F[1:], tuple(F), SubList(F), SubTuple(F),
                                 [Agreeable()] + F[1:], first_state(CHAIN), [-1] + F[1:]]
        for value in wrong:
            with self.assertRaises(InvalidStateError, msg=value):
                format_state(P, value)


if __name__ == "__main__":
    unittest.main()
