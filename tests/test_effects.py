"""Points 2, 20 and 21: what a click list does from all states at once."""

import unittest
from itertools import product
from random import Random

from accordions.clicks import after_clicks, first_hidden
from accordions.effects import count_ends, count_starts, effect_of, effect_of_rounds, nth_start, same_effect
from accordions.errors import InvalidClicksError, InvalidNumberError, InvalidPlanError
from accordions.states import count_states, nth_state
from tests import definitions, searches
from tests.examples import (CHAIN, CHAINS, KINDS, LARGE_PLANS, MIXED, O, ONES, P, PAGE, STEPS, TABS, Agreeable, SubList,
                            SubTuple, other_kinds, small_plans, small_shapes, typical_plans, wrong_plans,
                            wrong_sections)

MANY = 10 ** 30
CALLS = (effect_of, lambda plan, clicks: effect_of_rounds(plan, clicks, 2), count_starts, count_ends,
         lambda plan, clicks: nth_start(plan, clicks, 0), lambda plan, clicks: same_effect(plan, clicks, []),
         lambda plan, clicks: same_effect(plan, [], clicks))


def short_lists(plan, most):
    """All click lists with at most so many clicks."""
    for length in range(most + 1):
        for row in product(range(1, len(plan)), repeat=length):
            yield list(row)


def identity(plan):
    return [(section, [(setting, setting) for setting in definitions.settings(plan, section)])
            for section in range(len(plan)) if definitions.group(plan, section)]


def setting_after_rounds(pairs, before, count):
    """The setting after so many rounds, by a walk that looks for its cycle, or None."""
    moves, way = dict(pairs), [before]
    while len(way) <= count:
        after = moves.get(way[-1])
        if after is None:
            return None
        if after in way:
            begin = way.index(after)
            return way[begin + (count - begin) % (len(way) - begin)]
        way.append(after)
    return way[count]


def rounds(plan, clicks, count):
    """The effect of rounds, from the effect of one, group by group."""
    if count == 0:
        return identity(plan)
    rows = []
    for section, pairs in definitions.effect(plan, clicks):
        ends = [(before, setting_after_rounds(pairs, before, count)) for before, _ in pairs]
        rows.append((section, [pair for pair in ends if pair[1] is not None]))
    if any(not pairs for _, pairs in rows):
        return [(section, []) for section, _ in rows]
    return rows


class EffectTest(unittest.TestCase):
    def assert_effect(self, plan, moves, clicks):
        """The effect is as defined, and tells from which of all states the list works and where it leads."""
        effect = effect_of(plan, clicks)
        self.assertEqual(effect, definitions.effect(plan, clicks), (plan, clicks))
        found = searches.runs(moves, clicks)
        starts = sorted(found)
        self.assertEqual(count_starts(plan, clicks), len(found), (plan, clicks))
        self.assertEqual(count_ends(plan, clicks), len(set(found.values())), (plan, clicks))
        self.assertEqual([tuple(nth_start(plan, clicks, index)) for index in range(len(starts))], starts)
        pairs = dict(effect)
        for state in moves:
            works = all(state[section] in dict(pairs[section]) for section in pairs)
            self.assertIs(works, state in found, (plan, clicks, state))
            if works:
                after = list(state)
                for section in pairs:
                    after[section] = dict(pairs[section])[state[section]]
                self.assertEqual(tuple(after), found[state])
        if not found:
            self.assertEqual(effect, [(section, []) for section in pairs])

    def test_examples(self):
        self.assertEqual(effect_of(P, [4, 6]), [
            (0, [(0, 4), (1, 4), (7, 4)]), (1, [(0, 0), (2, 2), (3, 3)]), (4, [(5, 6), (6, 6)]),
            (7, [(8, 8), (9, 9), (10, 10)])])
        self.assertEqual([count_starts(P, [4, 6]), count_ends(P, [4, 6]), effect_of_rounds(P, [4, 6], 2)[0]],
                         [54, 9, (0, [])])
        self.assertEqual(effect_of_rounds(P, [4, 4], MANY)[0], (0, [(0, 0), (1, 0), (4, 4), (7, 0)]))
        self.assertEqual([same_effect(P, [4, 4], [4, 4, 4, 4]), same_effect(P, [1, 4], [7, 4]),
                          same_effect(P, [4], [4, 4, 4])], [True, True, True])

    def test_all_short_lists_in_small_plans(self):
        for plan in [*small_plans(3), *small_shapes(4)]:
            moves = searches.graph(plan)
            for clicks in short_lists(plan, 4 if len(plan) < 4 else 3):
                self.assert_effect(plan, moves, clicks)

    def test_lists_that_work_from_some_state(self):
        chance = Random(20)
        for plan in [*small_shapes(5), *typical_plans()]:
            moves = searches.graph(plan)
            for length in (2, 5, 9):
                state, clicks = searches.walk(moves, chance, length)
                self.assertIsNone(first_hidden(plan, state, clicks))
                self.assert_effect(plan, moves, clicks)

    def test_lists_with_one_click_changed(self):
        chance = Random(21)
        for plan in typical_plans():
            moves = searches.graph(plan)
            for _ in range(6):
                _, clicks = searches.walk(moves, chance, 6)
                for place in range(len(clicks)):
                    other = [chance.randrange(1, len(plan))]
                    self.assert_effect(plan, moves, clicks[:place] + other + clicks[place + 1:])

    def test_empty_list(self):
        for plan in (P, PAGE, *LARGE_PLANS, *CHAINS):
            self.assertEqual(effect_of(plan, []), identity(plan))
            self.assertEqual([count_starts(plan, []), count_ends(plan, [])], [count_states(plan)] * 2)
            for index in (0, count_states(plan) // 2, count_states(plan) - 1):
                self.assertEqual(nth_start(plan, [], index), nth_state(plan, index))

    def test_page_alone(self):
        for kind in KINDS:
            plan = [(0, kind)]
            self.assertEqual([effect_of(plan, []), effect_of_rounds(plan, [], 0), effect_of_rounds(plan, [], MANY)],
                             [[], [], []])
            self.assertEqual([count_starts(plan, []), count_ends(plan, []), nth_start(plan, [], 0)], [1, 1, [0]])
            self.assertIs(same_effect(plan, [], []), True)

    def test_lists_that_work_from_no_state(self):
        nothing = [(0, []), (1, []), (4, []), (7, [])]
        for clicks in ([4, 2], [1, 4, 2], [7, 8, 10], [2, 5], [4, 6, 1, 9], [1, 2, 4, 4, 5]):
            self.assertEqual(effect_of(P, clicks), nothing)
            self.assertEqual([count_starts(P, clicks), count_ends(P, clicks)], [0, 0])
            self.assertEqual([effect_of_rounds(P, clicks, count) for count in (1, 2, MANY)], [nothing] * 3)
            self.assertEqual(effect_of_rounds(P, clicks, 0), identity(P))
            self.assertIs(same_effect(P, clicks, [4, 2]), True)
            self.assertIs(same_effect(P, clicks, []), False)
            with self.assertRaises(InvalidNumberError):
                nth_start(P, clicks, 0)

    def test_steps_clicked_within_and_on(self):
        plan = [(0, "step"), (1, O), (2, O), (1, "tab"), (2, O), (1, O)]
        self.assertEqual(effect_of(plan, [3]), [(0, [(1, 3), (3, 3), (5, 3)]), (1, [(0, 0), (2, 2)]), (3, [(4, 4)])])
        self.assertEqual(effect_of(plan, [1])[0], (0, [(1, 1), (3, 1)]))
        self.assertEqual(effect_of(plan, [5])[0], (0, [(3, 5), (5, 5)]))
        self.assertEqual(effect_of(plan, [2])[:2], [(0, [(1, 1)]), (1, [(0, 2), (2, 0)])])
        self.assertEqual(effect_of(plan, [2, 3, 4])[:2], [(0, [(1, 3)]), (1, [(0, 2), (2, 0)])])
        self.assertEqual(effect_of(plan, [3, 2])[0], (0, []))
        self.assertEqual(effect_of(plan, [3, 1, 2])[0], (0, [(1, 1), (3, 1), (5, 1)]))

    def test_results_have_the_kinds_of_the_document(self):
        for clicks in ([4, 6], [4, 2], []):
            for effect in (effect_of(P, clicks), effect_of_rounds(P, clicks, 3)):
                self.assertIs(type(effect), list)
                for row in effect:
                    self.assertEqual([type(row), type(row[0]), type(row[1])], [tuple, int, list])
                    self.assertEqual([section for section, _ in effect], [0, 1, 4, 7])
                    for pair in row[1]:
                        self.assertEqual([type(pair)] + [type(item) for item in pair], [tuple, int, int])
            self.assertEqual([type(count_starts(P, clicks)), type(count_ends(P, clicks))], [int, int])

    def test_results_are_new_down_to_the_pairs(self):
        for call in (effect_of, lambda plan, clicks: effect_of_rounds(plan, clicks, 1)):
            first = call(P, [4, 2])
            first[0][1].append("mark")
            self.assertEqual(call(P, [4, 2]), [(0, []), (1, []), (4, []), (7, [])])
            self.assertEqual(first[1:], [(1, []), (4, []), (7, [])])


class SameEffectTest(unittest.TestCase):
    def test_all_pairs_of_short_lists(self):
        for plan in [*small_shapes(3), [(0, O), (1, "tab"), (2, O), (2, O)], [(0, "step"), (1, O), (1, O), (1, O)]]:
            lists = list(short_lists(plan, 3))
            effects = [definitions.effect(plan, clicks) for clicks in lists]
            for first, one in zip(lists, effects):
                for second, other in zip(lists, effects):
                    self.assertIs(same_effect(plan, first, second), one == other, (plan, first, second))

    def test_equal_ends_but_other_starts(self):
        self.assertIs(same_effect(P, [4], [4, 4, 4]), True)
        self.assertIs(same_effect(P, [4], [4, 4]), False)
        self.assertIs(same_effect(P, [7, 9], [7, 9, 9]), True)
        # The second list needs step 8 or 9 at the beginning as well, but must pass 9.
        self.assertIs(same_effect(P, [7, 10], [7, 9, 10]), False)


class RoundsTest(unittest.TestCase):
    def assert_rounds(self, plan, clicks, count):
        self.assertEqual(effect_of_rounds(plan, clicks, count), rounds(plan, clicks, count), (plan, clicks, count))

    def test_lists_written_out(self):
        chance = Random(22)
        for plan in [*small_plans(3), *small_shapes(4), *typical_plans()]:
            moves = searches.graph(plan)
            lists = [[], [1], [1, 1], searches.walk(moves, chance, 2)[1], searches.walk(moves, chance, 5)[1]]
            for clicks in lists if len(plan) > 1 else [[]]:
                for count in (0, 1, 2, 3, 4, 5, 8, 13):
                    self.assertEqual(effect_of_rounds(plan, clicks, count), effect_of(plan, clicks * count))

    def test_all_short_lists_in_small_plans(self):
        other = [[(0, O), (1, O), (2, O), (1, "tab"), (2, O)], [(0, "step"), (1, O), (1, O), (2, O)]]
        for plan in [*small_shapes(3), *other]:
            for clicks in short_lists(plan, 3):
                for count in (0, 1, 2, 3, 6, 7, MANY - 1, MANY):
                    self.assert_rounds(plan, clicks, count)

    def test_many_rounds_that_go_round_in_a_cycle(self):
        self.assertEqual(effect_of_rounds(P, [4], MANY)[0], (0, [(0, 0), (1, 0), (4, 4), (7, 0)]))
        self.assertEqual(effect_of_rounds(P, [4], MANY - 1)[0], (0, [(0, 4), (1, 4), (4, 0), (7, 4)]))
        self.assertEqual(effect_of_rounds(P, [1, 2], 1)[:2], [(0, [(0, 1), (4, 1), (7, 1)]),
                                                              (1, [(0, 2), (2, 0), (3, 2)])])
        self.assertEqual(effect_of_rounds(P, [1, 2, 1], MANY)[:2], [(0, [(0, 0), (4, 0), (7, 0)]),
                                                                  (1, [(0, 0), (2, 2), (3, 0)])])
        self.assertEqual(effect_of_rounds(P, [1, 2, 1], MANY - 1)[:2], [(0, [(0, 0), (4, 0), (7, 0)]),
                                                                      (1, [(0, 2), (2, 0), (3, 2)])])

    def test_list_that_works_once_but_not_twice(self):
        nothing = [(0, []), (1, []), (4, []), (7, [])]
        self.assertEqual(count_starts(P, [4, 6]), 54)
        self.assertEqual([effect_of_rounds(P, [4, 6], count) for count in (2, 3, 5, MANY)], [nothing] * 4)

    def test_list_that_works_fewer_times_from_other_states(self):
        plan = [(0, "step")] + [(1, O)] * 4
        # From section 1 no click of the list is out of reach, from section 4 its first one is.
        self.assertEqual(effect_of(plan, [2, 3]), [(0, [(1, 3), (2, 3), (3, 3)])])
        self.assertEqual(effect_of_rounds(plan, [2, 3], MANY), [(0, [(1, 3), (2, 3), (3, 3)])])
        self.assertEqual(effect_of(plan, [2, 3, 4]), [(0, [(1, 4), (2, 4), (3, 4)])])
        self.assertEqual(effect_of_rounds(plan, [2, 3, 4], 2), [(0, [])])

    def test_no_round_of_any_list(self):
        for plan in (P, *LARGE_PLANS):
            for clicks in ([], [1], [2, 1, 3] * 100):
                self.assertEqual(effect_of_rounds(plan, clicks, 0), effect_of(plan, []))

    def test_limits_of_the_count(self):
        for count in (0, 1, MANY - 1, MANY):
            self.assertEqual(effect_of_rounds(P, [], count), effect_of(P, []))
        for count in [-1, -MANY, MANY + 1, 10 ** 31 - 1, [0], []] + other_kinds():
            with self.assertRaises(InvalidNumberError, msg=count):
                effect_of_rounds(P, [4], count)


class LargeTest(unittest.TestCase):
    def test_one_group_of_thirty_nine(self):
        self.assertEqual(effect_of(TABS, [7]), [(0, [(setting, 7) for setting in range(1, 40)])])
        self.assertEqual(effect_of(ONES, [7]), [(0, [(setting, 0 if setting == 7 else 7) for setting in range(40)])])
        self.assertEqual(effect_of(STEPS, [7]), [(0, [(6, 7), (7, 7), (8, 7)])])
        self.assertEqual(effect_of(STEPS, list(range(2, 40))), [(0, [(1, 39), (2, 39), (3, 39)])])
        self.assertEqual([count_starts(ONES, [7] * 300), count_ends(ONES, [7] * 300)], [40, 2])
        self.assertEqual(nth_start(STEPS, [1], 1), [2] + [0] * 39)

    def test_deep_chain(self):
        ones = CHAINS[0]
        way = list(range(1, 40))
        # Each header is clicked while it is closed, and all above it are open then.
        self.assertEqual(effect_of(ones, way), [(section, [(0, section + 1)]) for section in range(38)] +
                         [(38, [(0, 39), (39, 0)])])
        self.assertEqual([count_starts(ones, way), count_ends(ones, way)], [2, 2])
        self.assertEqual(nth_start(ones, way, 1), [0] * 38 + [39, 0])
        self.assertEqual(count_starts(ones, [39]), 2)
        self.assertEqual(effect_of_rounds(ones, [39] * 3, MANY - 1), effect_of(ones, [39]))
        for chain in CHAINS[1:]:
            self.assertEqual(count_starts(chain, way), 1)

    def test_mixed_plan(self):
        total = count_states(MIXED)
        page = (0, [(section, 1) for section in range(1, 40, 3)])
        self.assertEqual(effect_of(MIXED, [1]), [page] + identity(MIXED)[1:])
        self.assertEqual([count_starts(MIXED, [1]), count_ends(MIXED, [1])], [total, total // 13])
        clicks = [section for section in range(1, 40, 3)]
        self.assertEqual(nth_start(MIXED, clicks, total - 1), nth_state(MIXED, total - 1))

    def test_three_hundred_clicks(self):
        for clicks in ([1, 2, 3, 3, 2, 1] * 50, [4, 5, 6] * 100, [7, 8, 9, 10, 9, 8] * 50, [7] + [8] * 299):
            self.assertEqual(effect_of(P, clicks), definitions.effect(P, clicks))
            for count in (2, 3, MANY):
                self.assertEqual(effect_of_rounds(P, clicks, count), rounds(P, clicks, count))

    def test_indices_of_large_plans(self):
        for plan, clicks in ((MIXED, [4, 5, 7]), (CHAIN, [1]), (ONES, [3, 3, 4])):
            many = count_starts(plan, clicks)
            found = [nth_start(plan, clicks, index) for index in sorted({0, many // 3, many - 1})]
            self.assertEqual(found, sorted(found))
            for state in found:
                self.assertIsNone(first_hidden(plan, state, clicks))
                pairs = dict(effect_of(plan, clicks))
                after = after_clicks(plan, state, *clicks)
                for section in pairs:
                    self.assertEqual(dict(pairs[section])[state[section]], after[section])


class WrongArgumentsTest(unittest.TestCase):
    def test_wrong_plans(self):
        for plan in wrong_plans():
            for call in CALLS:
                with self.assertRaises(InvalidPlanError, msg=plan):
                    call(plan, [1])

    def test_wrong_clicks(self):
        wrong = other_kinds() + [SubList([1]), SubTuple((1,)), (1, 2), [0], [1, 0], [11], [-1], [4, True], [False],
                                 [1.0], [None], [[1]], [Agreeable()], [1] * 301]
        wrong += [[4, section] for section in wrong_sections(P)]
        for clicks in wrong:
            for call in CALLS:
                with self.assertRaises(InvalidClicksError, msg=clicks):
                    call(P, clicks)
        for call in CALLS:
            with self.assertRaises(InvalidClicksError):
                call(PAGE, [0])

    def test_wrong_index(self):
        for plan, clicks in ((P, [4, 6]), (P, []), (P, [4, 2]), (PAGE, []), (STEPS, [20])):
            many = count_starts(plan, clicks)
            for index in [-1, many, many + 1, 10 ** 79, -10 ** 79, [0], []] + other_kinds():
                with self.assertRaises(InvalidNumberError, msg=index):
                    nth_start(plan, clicks, index)


if __name__ == "__main__":
    unittest.main()
