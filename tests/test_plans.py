"""Points 6 and 11: plans."""

import unittest

from accordions.errors import InvalidPlanError, InvalidSectionError
from accordions.plans import around, group_of, is_plan, parent_of, plan_without, sections_within
from tests import definitions
from tests.examples import (CHAIN, KINDS, LARGE_PLANS, MIXED, ONES, O, P, PAGE, STEPS, Agreeable, SubList, SubTuple,
                            other_kinds, small_plans, typical_plans, wrong_plans, wrong_sections)

READERS = (parent_of, group_of, around, sections_within)


class IsPlanTest(unittest.TestCase):
    def test_plans(self):
        for plan in [P, PAGE, [(0, "tab")], [(0, "step")], *LARGE_PLANS, *small_plans(3), *typical_plans()]:
            self.assertIs(is_plan(plan), True, plan)

    def test_forty_sections_and_one_more(self):
        for plan in LARGE_PLANS:
            self.assertEqual(len(plan), 40)
            self.assertIs(is_plan(plan), True)
            self.assertIs(is_plan(plan + [(1, O)]), False)
        self.assertIs(is_plan(CHAIN + [(40, O)]), False)
        self.assertIs(is_plan([(0, O)] + [(1, O)] * 1000), False)

    def test_no_plans(self):
        for value in wrong_plans():
            self.assertIs(is_plan(value), False, value)

    def test_one_wrong_row_at_any_place(self):
        wrong = other_kinds() + [
            (), (1,), (1, O, O), [1, O], SubTuple((1, O)), (True, O), ("1", O), (1.0, O), (None, O), ((1,), O),
            (1, "two"), (1, "ONE"), (1, "on"), (1, " one"), (1, None), (1, 1), (1, b"one"), (1, (O,)), (O, 1),
            (-1, O), (41, O), (10 ** 30, O), (-10 ** 30, O), (Agreeable(), O), (1, Agreeable()),
        ]
        for plan in (P, PAGE, MIXED):
            for place in range(len(plan)):
                for row in wrong:
                    self.assertIs(is_plan(plan[:place] + [row] + plan[place + 1:]), False, (place, row))

    def test_depths(self):
        for place in range(1, len(P)):
            for depth in range(-2, 6):
                plan = P[:place] + [(depth, O)]
                self.assertIs(is_plan(plan), 1 <= depth <= P[place - 1][0] + 1, plan)
        for depth in (-1, 1, 2):
            self.assertIs(is_plan([(depth, O)]), False)
            self.assertIs(is_plan([(depth, O), (depth + 1, O)]), False)

    def test_exact_lists_and_tuples(self):
        self.assertIs(is_plan(tuple(P)), False)
        self.assertIs(is_plan([list(row) for row in P]), False)
        self.assertIs(is_plan(SubList(P)), False)
        self.assertIs(is_plan([SubTuple(row) for row in P]), False)
        self.assertIs(is_plan(iter(P)), False)
        self.assertIs(is_plan(dict(P)), False)

    def test_bools_are_no_depths(self):
        self.assertIs(is_plan([(False, O)]), False)
        self.assertIs(is_plan([(0, O), (True, O)]), False)


class ReadersTest(unittest.TestCase):
    def test_examples(self):
        self.assertEqual(parent_of(P, 9), 7)
        self.assertEqual(group_of(P, 0), [1, 4, 7])
        self.assertEqual(around(P, 9), [0, 7])
        self.assertEqual(sections_within(P, 4), [5, 6])
        self.assertEqual(plan_without(P, 1)[:2], [(0, "one"), (1, "tab")])
        self.assertEqual(plan_without(P, 1), [(0, O)] + P[4:])

    def test_page_alone(self):
        for kind in KINDS:
            plan = [(0, kind)]
            self.assertIsNone(parent_of(plan, 0))
            self.assertEqual([group_of(plan, 0), around(plan, 0), sections_within(plan, 0)], [[], [], []])

    def test_page_of_other_plans(self):
        for plan in (P, *LARGE_PLANS):
            self.assertIsNone(parent_of(plan, 0))
            self.assertEqual(around(plan, 0), [])
            self.assertEqual(sections_within(plan, 0), list(range(1, len(plan))))

    def test_chain(self):
        for section in range(40):
            self.assertEqual(parent_of(CHAIN, section), section - 1 if section else None)
            self.assertEqual(group_of(CHAIN, section), [section + 1] if section < 39 else [])
            self.assertEqual(around(CHAIN, section), list(range(section)))
            self.assertEqual(sections_within(CHAIN, section), list(range(section + 1, 40)))

    def test_one_large_group(self):
        self.assertEqual(group_of(STEPS, 0), list(range(1, 40)))
        for section in range(1, 40):
            self.assertEqual(parent_of(STEPS, section), 0)
            self.assertEqual(around(STEPS, section), [0])
            self.assertEqual([group_of(STEPS, section), sections_within(STEPS, section)], [[], []])

    def test_definitions(self):
        for plan in [*small_plans(4), *typical_plans(), MIXED]:
            for section in range(len(plan)):
                self.assertEqual(parent_of(plan, section), definitions.parent(plan, section))
                self.assertEqual(group_of(plan, section), definitions.group(plan, section))
                self.assertEqual(around(plan, section), definitions.around(plan, section))
                inner = [other for other in range(len(plan)) if section in definitions.around(plan, other)]
                self.assertEqual(sections_within(plan, section), inner)

    def test_mixed_depths(self):
        plan = [(0, O), (1, O), (2, O), (3, O), (2, O), (1, O), (2, O), (3, O), (3, O)]
        self.assertEqual([parent_of(plan, section) for section in range(9)], [None, 0, 1, 2, 1, 0, 5, 6, 6])
        self.assertEqual([group_of(plan, section) for section in (0, 1, 6)], [[1, 5], [2, 4], [7, 8]])
        self.assertEqual(around(plan, 8), [0, 5, 6])
        self.assertEqual([sections_within(plan, section) for section in (1, 2, 4, 5)], [[2, 3, 4], [3], [], [6, 7, 8]])

    def test_wrong_sections(self):
        for plan in (P, PAGE, CHAIN):
            for section in wrong_sections(plan):
                for function in READERS + (plan_without,):
                    with self.assertRaises(InvalidSectionError, msg=(function, section)):
                        function(plan, section)

    def test_wrong_plans(self):
        for plan in wrong_plans():
            for function in READERS + (plan_without,):
                for section in (0, 1, -1, None):
                    with self.assertRaises(InvalidPlanError, msg=(function, plan)):
                        function(plan, section)


class PlanWithoutTest(unittest.TestCase):
    def test_rows_that_are_left(self):
        for plan in [*small_plans(4), *typical_plans(), *LARGE_PLANS]:
            for section in range(1, len(plan)):
                left = plan_without(plan, section)
                inner = [other for other in range(len(plan)) if section in definitions.around(plan, other)]
                self.assertEqual(left, [plan[k] for k in range(len(plan)) if k != section and k not in inner])
                self.assertIs(is_plan(left), True)

    def test_not_the_page(self):
        for plan in (P, PAGE, CHAIN):
            with self.assertRaises(InvalidSectionError):
                plan_without(plan, 0)

    def test_only_section(self):
        self.assertEqual(plan_without([(0, "step"), (1, O)], 1), [(0, "step")])
        self.assertEqual(plan_without(CHAIN, 1), [(0, "one")])
        self.assertEqual(plan_without(ONES, 39), ONES[:39])


if __name__ == "__main__":
    unittest.main()
