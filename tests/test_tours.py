"""Points 18 and 19: tours."""

import unittest
from itertools import combinations, product
from math import factorial

from accordions.clicks import after_clicks, first_hidden, steps
from accordions.errors import InvalidNumberError, InvalidPlanError, InvalidSectionsError, InvalidStateError
from accordions.states import count_states, first_state, nth_state, shown_sections
from accordions.tours import count_tours, fewest_to_show, is_tour, nth_tour
from tests import definitions, searches
from tests.examples import (CHAIN, CHAINS, F, G, KINDS, LARGE_PLANS, MIXED, O, ONES, P, PAGE, PAIRS, STEPS, TABS,
                            Agreeable, SubList, SubTuple, other_kinds, small_shapes, typical_plans, wrong_plans,
                            wrong_sections)

CALLS = (fewest_to_show, count_tours, lambda *arguments: nth_tour(*arguments, 0),
         lambda *arguments: is_tour(*arguments, []))


def all_tours(plan, state, sections):
    return [nth_tour(plan, state, sections, index) for index in range(count_tours(plan, state, sections))]


def all_selections(plan):
    """All ascending lists of different sections."""
    return [list(row) for many in range(len(plan) + 1) for row in combinations(range(len(plan)), many)]


class TourTest(unittest.TestCase):
    def assert_tours(self, plan, state, sections, tours):
        """These are all tours, in list order."""
        self.assertEqual(fewest_to_show(plan, state, sections), len(tours[0]), (plan, state, sections))
        self.assertEqual(count_tours(plan, state, sections), len(tours), (plan, state, sections))
        places = range(len(tours)) if len(tours) < 30 else [0, 1, len(tours) // 3, len(tours) // 2, len(tours) - 1]
        for index in places:
            self.assertEqual(nth_tour(plan, state, sections, index), tours[index])
            self.assertIs(is_tour(plan, state, sections, tours[index]), True)

    def test_examples(self):
        self.assertEqual(fewest_to_show(P, F, [3, 6, 9]), 6)
        self.assertEqual(count_tours(P, F, [3, 6, 9]), 6)
        self.assertEqual(nth_tour(P, F, [3, 6, 9], 0), [1, 3, 4, 6, 7, 9])
        self.assertEqual([fewest_to_show(P, G, [0, 3, 10]), count_tours(P, G, []), is_tour(P, G, [10], [7])],
                         [1, 1, True])

    def test_all_selections_of_small_plans(self):
        for plan in small_shapes(4):
            moves = searches.graph(plan)
            for state in definitions.states(plan):
                for sections in all_selections(plan):
                    self.assert_tours(plan, state, sections, searches.tours(plan, moves, state, sections))

    def test_some_selections_of_other_plans(self):
        for turn, plan in enumerate([*small_shapes(5), *typical_plans()]):
            moves = searches.graph(plan)
            selections = all_selections(plan)
            for place, state in enumerate(definitions.states(plan)[turn % 3::3]):
                for sections in selections[(turn + place) % 17::17 if len(plan) < 8 else 67]:
                    self.assert_tours(plan, state, sections, searches.tours(plan, moves, state, sections))

    def test_length_as_the_document_defines_it(self):
        for plan in [*small_shapes(4), *typical_plans()]:
            selections = all_selections(plan)
            for state in definitions.states(plan)[::4]:
                for sections in selections[::1 if len(plan) < 5 else 41]:
                    length = definitions.tour_length(plan, state, sections)
                    self.assertEqual(fewest_to_show(plan, state, sections), length, (plan, state, sections))

    def test_no_wanted_section_and_the_page(self):
        for plan in (P, PAGE, *LARGE_PLANS, *CHAINS):
            for state in (first_state(plan), nth_state(plan, count_states(plan) - 1)):
                for sections in ([], [0]):
                    self.assert_tours(plan, state, sections, [[]])

    def test_page_alone(self):
        for kind in KINDS:
            self.assert_tours([(0, kind)], [0], [], [[]])
            self.assert_tours([(0, kind)], [0], [0], [[]])
            self.assertIs(is_tour([(0, kind)], [0], [0], [1]), False)

    def test_sections_that_are_shown_at_the_beginning(self):
        for plan in (P, MIXED, CHAIN):
            state = nth_state(plan, count_states(plan) - 1)
            self.assert_tours(plan, state, shown_sections(plan, state), [[]])
        self.assert_tours(P, G, [0, 1, 3], [[]])
        self.assert_tours(P, G, [0, 1, 2, 3], [[2]])
        self.assert_tours(P, G, [0, 3, 10], [[7]])

    def test_sections_that_are_open_but_not_shown(self):
        self.assert_tours(P, F, [5], [[4]])
        self.assert_tours(P, F, [8], [[7]])
        self.assert_tours(P, F, [5, 8], [[4, 7], [7, 4]])
        self.assert_tours(P, G, [10], [[7]])


class GroupTest(unittest.TestCase):
    def tours_of(self, kind, size, setting, sections):
        return all_tours([(0, kind)] + [(1, O)] * size, [setting] + [0] * size, sections)

    def test_several_sections_in_one_group(self):
        for kind in ("one", "tab"):
            self.assertEqual(self.tours_of(kind, 4, 2, [1, 3]), [[1, 3], [3, 1]])
            self.assertEqual(self.tours_of(kind, 4, 2, [1, 2, 3]), [[1, 3], [3, 1]])
            self.assertEqual(len(self.tours_of(kind, 4, 2, [1, 2, 3, 4])), 6)
        self.assertEqual(self.tours_of("one", 4, 0, [2, 4]), [[2, 4], [4, 2]])
        self.assertEqual(len(self.tours_of("one", 4, 0, [1, 2, 3, 4])), 24)

    def test_steps(self):
        for setting, sections, tours in (
                (1, [4], [[2, 3, 4]]), (1, [2, 4], [[2, 3, 4]]), (4, [1], [[3, 2, 1]]), (3, [1], [[2, 1]]),
                (2, [1, 4], [[1, 2, 3, 4]]), (4, [3, 5], [[3, 4, 5], [5, 4, 3]]), (4, [2, 5], [[5, 4, 3, 2]]),
                (3, [1, 5], [[2, 1, 2, 3, 4, 5], [4, 5, 4, 3, 2, 1]]), (3, [3], [[]]), (3, [1, 3, 4], [[4, 3, 2, 1]]),
                (3, [1, 2, 3, 4, 5], [[2, 1, 2, 3, 4, 5], [4, 5, 4, 3, 2, 1]])):
            self.assertEqual(self.tours_of("step", 5, setting, sections), tours, (setting, sections))

    def test_clicks_within_steps_that_are_visited_more_than_once(self):
        plan = [(0, "step"), (1, O), (1, O), (2, O), (2, O), (1, O)]
        state = [2, 0, 0, 0, 0, 0]
        # One way each: twice in the middle one, whose clicks are 3 and 4 in either order.
        self.assertEqual(all_tours(plan, state, [1, 3, 4]), [[3, 4, 1], [4, 3, 1]])
        self.assertEqual(count_tours(plan, state, [1, 3, 4, 5]), 2 * 2 * 3)
        rows = all_tours(plan, state, [1, 3, 4, 5])
        self.assertEqual(rows[:3], [[1, 2, 3, 4, 5], [1, 2, 4, 3, 5], [3, 1, 2, 4, 5]])
        self.assertEqual(rows, sorted(rows))
        self.assertEqual(rows[-1], [5, 2, 4, 3, 1])

    def test_no_way_back(self):
        # The clicks within the section that is open are made before it is closed.
        for kind in ("one", "tab"):
            plan = [(0, kind), (1, O), (2, O), (1, O), (2, O)]
            self.assertEqual(all_tours(plan, [1, 0, 0, 0, 0], [2, 4]), [[2, 3, 4]])
            self.assertEqual(all_tours(plan, [3, 0, 0, 0, 0], [2, 4]), [[4, 1, 2]])

    def test_deep_sections(self):
        plan = [(0, O), (1, O), (2, "tab"), (3, O), (3, O), (2, O), (1, "step"), (2, O), (2, O)]
        state = [0, 0, 3, 0, 0, 0, 7, 0, 0]
        self.assertEqual(all_tours(plan, state, [4]), [[1, 2, 4]])
        self.assertEqual(all_tours(plan, state, [3, 4]), [[1, 2, 4]])
        self.assertEqual(all_tours(plan, state, [4, 5]), [[1, 2, 4, 5], [1, 5, 2, 4]])
        self.assertEqual(all_tours(plan, state, [2, 8]), [[1, 2, 6, 8], [6, 8, 1, 2]])


class LargeTest(unittest.TestCase):
    def assert_index(self, plan, state, sections, index):
        tour = nth_tour(plan, state, sections, index)
        self.assertEqual(len(tour), fewest_to_show(plan, state, sections))
        seen = [section for row in steps(plan, state, tour) for section in shown_sections(plan, row)]
        self.assertLessEqual(set(sections), set(seen))
        self.assertIs(is_tour(plan, state, sections, tour), True)
        return tour

    def test_all_sections(self):
        for plan in (*LARGE_PLANS, *CHAINS, *PAIRS):
            for state in (first_state(plan), nth_state(plan, count_states(plan) - 1)):
                for sections in (list(range(40)), list(range(1, 40)), list(range(1, 40, 3)), [39]):
                    many = count_tours(plan, state, sections)
                    self.assertEqual(fewest_to_show(plan, state, sections),
                                     definitions.tour_length(plan, state, sections))
                    rows = [self.assert_index(plan, state, sections, index)
                            for index in sorted({0, many // 3, many // 2, many - 1})]
                    self.assertEqual(rows, sorted(rows))

    def test_one_group_of_thirty_nine(self):
        everything = list(range(40))
        for plan, state, many in ((TABS, [1] + [0] * 39, factorial(38)), (ONES, [0] * 40, factorial(39))):
            self.assertEqual(count_tours(plan, state, everything), many)
            left = [section for section in range(1, 40) if section != state[0]]
            self.assertEqual(self.assert_index(plan, state, everything, 0), left)
            self.assertEqual(self.assert_index(plan, state, everything, many - 1), left[::-1])
            swapped = left[:-2] + [left[-1], left[-2]]
            self.assertEqual(self.assert_index(plan, state, everything, 1), swapped)
        self.assertEqual(all_tours(STEPS, [5] + [0] * 39, everything), [[4, 3, 2, 1, *range(2, 40)]])
        self.assertEqual(count_tours(STEPS, [20] + [0] * 39, everything), 2)
        self.assertEqual(fewest_to_show(STEPS, [20] + [0] * 39, everything), 57)

    def test_deep_chain(self):
        for plan in (CHAIN, *CHAINS):
            state = first_state(plan)
            way = [section + 1 for section in range(39) if state[section] == 0]
            self.assertEqual(all_tours(plan, state, [39]), [way])
            self.assertEqual(all_tours(plan, state, list(range(40))), [way])

    def test_great_numbers(self):
        one, _, step = PAIRS
        many = factorial(20)
        self.assertEqual(count_tours(one, [0] * 40, list(range(40))), many)
        self.assertEqual(self.assert_index(one, [0] * 40, list(range(40)), 0), list(range(1, 40)))
        last = [39] + [section for k in range(37, 0, -2) for section in (k, k + 1)]
        self.assertEqual(self.assert_index(one, [0] * 40, list(range(40)), many - 1), last)
        # From place 9 of 20 down and up again: the places 1 to 9 are visited twice, place 0 once.
        self.assertEqual(count_tours(step, [19] + [0] * 39, list(range(40))), 2 ** 9)


class ValuesTest(unittest.TestCase):
    def test_lists_with_one_click_changed_left_out_or_added(self):
        for plan, state, sections in ((P, F, [3, 6, 9]), (P, G, [2, 5]), (P, G, []), (P, F, [8, 9, 10])):
            tours = all_tours(plan, state, sections)
            for clicks in tours:
                for place in range(len(clicks) + 1):
                    before, behind = clicks[:place], clicks[place + 1:]
                    changed = [before + behind] if place < len(clicks) else []
                    for section in range(-1, len(plan) + 1):
                        changed += [before + [section] + behind, before + [section] + clicks[place:]]
                    for value in changed:
                        self.assertIs(is_tour(plan, state, sections, value), value in tours, value)

    def test_all_lists_of_the_same_length(self):
        plan = [(0, "step"), (1, O), (2, O), (1, O), (1, "tab"), (2, O), (2, O)]
        for state, sections in (([3, 0, 0, 0, 5, 0, 0], [2, 6]), ([4, 0, 0, 0, 5, 0, 0], [3, 6]),
                                ([1, 0, 0, 0, 6, 0, 0], [2, 5]), ([3, 2, 0, 0, 5, 0, 0], [1, 4])):
            rows = product(range(7), repeat=fewest_to_show(plan, state, sections))
            found = [list(row) for row in rows if is_tour(plan, state, sections, list(row))]
            self.assertEqual(found, all_tours(plan, state, sections))
            self.assertEqual(found, searches.tours(plan, searches.graph(plan), state, sections))

    def test_lists_that_show_all_but_are_longer(self):
        for clicks in ([1, 3, 4, 6, 7, 9, 10], [1, 3, 4, 4, 4, 6, 7, 9], [1, 3, 4, 6, 6, 7, 9]):
            self.assertIsNone(first_hidden(P, F, clicks))
            self.assertIs(is_tour(P, F, [3, 6, 9], clicks), False)

    def test_lists_that_work_but_do_not_show_all(self):
        for clicks in ([1, 3, 4, 5, 7, 9], [1, 2, 4, 6, 7, 9], [1, 3, 4, 6, 7, 8], [1, 3, 1, 3, 4, 6]):
            self.assertIs(is_tour(P, F, [3, 6, 9], clicks), False)
        self.assertEqual(after_clicks(P, F, 4, 6, 7), [7, 0, 0, 0, 6, 0, 0, 8, 0, 0, 0])
        self.assertIs(is_tour(P, F, [5, 6, 8], [4, 6, 7]), True)
        self.assertIs(is_tour(P, F, [5, 6, 9], [4, 6, 7]), False)

    def test_lists_with_a_hidden_header(self):
        for clicks in ([3, 1, 4, 6, 7, 9], [1, 3, 6, 4, 7, 9], [1, 3, 4, 6, 9, 7]):
            self.assertIs(is_tour(P, F, [3, 6, 9], clicks), False)
        # What is shown before the hidden header does not make it a tour.
        self.assertIs(is_tour(P, F, [1, 4], [1, 2]), False)
        self.assertIs(is_tour([(0, "step"), (1, O), (1, O), (1, O)], [1, 0, 0, 0], [3], [2, 1]), False)
        self.assertIs(is_tour([(0, "step"), (1, O), (1, O), (1, O)], [2, 0, 0, 0], [1, 3], [1, 3, 2]), False)

    def test_values_of_other_kinds(self):
        right = [1, 3, 4, 6, 7, 9]
        values = other_kinds() + [tuple(right), SubList(right), SubTuple(right), iter(right), dict.fromkeys(right),
                                  "134679", [right], [tuple(right)], right * 50, right * 51]
        for value in values:
            self.assertIs(is_tour(P, F, [3, 6, 9], value), False, value)
        for value in other_kinds():
            self.assertIs(is_tour(P, F, [], value), False, value)
        for place in range(len(right)):
            for wrong in [0] + wrong_sections(P):
                value = right[:place] + [wrong] + right[place + 1:]
                self.assertIs(is_tour(P, F, [3, 6, 9], value), False, value)

    def test_bools_are_no_clicks(self):
        for wrong in (True, 1.0, Agreeable()):
            self.assertIs(is_tour(P, F, [1], [1]), True)
            self.assertIs(is_tour(P, F, [1], [wrong]), False)


class WrongArgumentsTest(unittest.TestCase):
    def test_wrong_sections(self):
        wrong = other_kinds() + [SubList([1]), (1, 2), {1: 2}, [2, 1], [1, 1], [0, 0], [3, 6, 6], [1, 3, 2], [-1],
                                 [-1, 0], [11], [0, 11], [3, 10 ** 30], [1, [2]], [[1]]]
        wrong += [[section] for section in wrong_sections(P)] + [[0, section] for section in wrong_sections(P)]
        for sections in wrong:
            for call in CALLS:
                with self.assertRaises(InvalidSectionsError, msg=sections):
                    call(P, F, sections)
        for sections in ([False], [True], [False, True], [False, 1], [0, True]):
            for call in CALLS:
                with self.assertRaises(InvalidSectionsError, msg=sections):
                    call(P, F, sections)

    def test_all_sections_are_a_list_of_sections(self):
        for plan in (P, PAGE, *LARGE_PLANS):
            for call in CALLS:
                call(plan, first_state(plan), list(range(len(plan))))
                with self.assertRaises(InvalidSectionsError):
                    call(plan, first_state(plan), list(range(len(plan) + 1)))

    def test_wrong_index(self):
        for plan, state, sections in ((P, F, [3, 6, 9]), (P, F, []), (PAGE, [0], [0]), (TABS, [1] + [0] * 39, [1, 2])):
            many = count_tours(plan, state, sections)
            for index in [-1, -many, many, many + 1, 10 ** 79, -10 ** 79, [0], []] + other_kinds():
                with self.assertRaises(InvalidNumberError, msg=index):
                    nth_tour(plan, state, sections, index)

    def test_wrong_plans(self):
        for plan in wrong_plans():
            for call in CALLS:
                with self.assertRaises(InvalidPlanError, msg=plan):
                    call(plan, F, [1])

    def test_wrong_states(self):
        wrong = other_kinds() + [[], F[:-1], F + [0], [2] + F[1:], [True] + F[1:], tuple(F), SubList(F), SubTuple(F),
                                 [Agreeable()] + F[1:], first_state(CHAIN)]
        for value in wrong:
            for call in CALLS:
                with self.assertRaises(InvalidStateError, msg=value):
                    call(P, value, [1])


if __name__ == "__main__":
    unittest.main()
