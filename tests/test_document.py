"""The examples of the document, as it writes them, one by one and each in a fresh namespace."""

import builtins
import unittest
from doctest import DocTestParser, DocTestRunner

# By the number of the point.
EXAMPLES = {
    10: """
>>> O = "one"
>>> P = [(0, O), (1, O), (2, O), (2, O), (1, "tab"), (2, O), (2, O), (1, "step"), (2, O), (2, O), (2, O)]
>>> F = [0, 0, 0, 0, 5, 0, 0, 8, 0, 0, 0]
>>> G = [1, 3, 0, 0, 6, 0, 0, 10, 0, 0, 0]
""",
    11: """
>>> O = "one"
>>> P = [(0, O), (1, O), (2, O), (2, O), (1, "tab"), (2, O), (2, O), (1, "step"), (2, O), (2, O), (2, O)]
>>> from accordions.plans import around, group_of, parent_of, plan_without, sections_within
>>> [parent_of(P, 9), group_of(P, 0), around(P, 9), sections_within(P, 4), plan_without(P, 1)[:2]]
[7, [1, 4, 7], [0, 7], [5, 6], [(0, 'one'), (1, 'tab')]]
""",
    12: """
>>> O = "one"
>>> P = [(0, O), (1, O), (2, O), (2, O), (1, "tab"), (2, O), (2, O), (1, "step"), (2, O), (2, O), (2, O)]
>>> F = [0, 0, 0, 0, 5, 0, 0, 8, 0, 0, 0]
>>> G = [1, 3, 0, 0, 6, 0, 0, 10, 0, 0, 0]
>>> from accordions.states import count_states, first_state, nth_state, shown_sections, state_rank, visible_headers
>>> [first_state(P) == F, count_states(P), state_rank(P, G), nth_state(P, 35) == G]
[True, 72, 35, True]
>>> [shown_sections(P, G), visible_headers(P, G), visible_headers(P, [7, 0, 0, 0, 5, 0, 0, 8, 0, 0, 0])]
[[0, 1, 3], [1, 2, 3, 4, 7], [1, 4, 7, 8, 9]]
""",
    13: """
>>> O = "one"
>>> P = [(0, O), (1, O), (2, O), (2, O), (1, "tab"), (2, O), (2, O), (1, "step"), (2, O), (2, O), (2, O)]
>>> F = [0, 0, 0, 0, 5, 0, 0, 8, 0, 0, 0]
>>> G = [1, 3, 0, 0, 6, 0, 0, 10, 0, 0, 0]
>>> from accordions.clicks import after_clicks, back_click, clicks_between, first_hidden, steps
>>> [after_clicks(P, F, 7, 9)[:8], first_hidden(P, F, [7, 10]), back_click(P, G, 7), back_click(P, G, 3)]
[[7, 0, 0, 0, 5, 0, 0, 9], 1, 1, 3]
>>> [clicks_between(P, F, G), clicks_between([(0, "tab"), (1, O)], [1, 0], [1, 0])]
[[], [1]]
>>> [state[:2] for state in steps(P, G, [3, 1])]
[[1, 3], [1, 0], [0, 0]]
""",
    14: """
>>> O = "one"
>>> P = [(0, O), (1, O), (2, O), (2, O), (1, "tab"), (2, O), (2, O), (1, "step"), (2, O), (2, O), (2, O)]
>>> F = [0, 0, 0, 0, 5, 0, 0, 8, 0, 0, 0]
>>> G = [1, 3, 0, 0, 6, 0, 0, 10, 0, 0, 0]
>>> from accordions.distances import distance, greatest_distance, nearer_clicks, walks, working_sections
>>> [distance(P, F, G), distance(P, G, F), walks(P, F, G), working_sections(P, F, G), greatest_distance(P)]
[7, 7, [(0, 3), (1, 1), (4, 1), (7, 2)], [0, 1, 4, 7], 8]
>>> [nearer_clicks(P, F, G), nearer_clicks(P, G, F)]
[[4, 7], [3]]
""",
    16: """
>>> O = "one"
>>> P = [(0, O), (1, O), (2, O), (2, O), (1, "tab"), (2, O), (2, O), (1, "step"), (2, O), (2, O), (2, O)]
>>> F = [0, 0, 0, 0, 5, 0, 0, 8, 0, 0, 0]
>>> G = [1, 3, 0, 0, 6, 0, 0, 10, 0, 0, 0]
>>> from accordions.shortest import count_shortest, is_shortest, nth_shortest, shortest_rank
>>> [count_shortest(P, F, G), nth_shortest(P, F, G, 0), nth_shortest(P, F, G, 1)]
[2, [4, 6, 7, 9, 10, 1, 3], [7, 9, 10, 4, 6, 1, 3]]
>>> A, B = [1, 0, 0, 0, 5, 0, 0, 8, 0, 0, 0], [1, 2, 0, 0, 6, 0, 0, 8, 0, 0, 0]
>>> [nth_shortest(P, A, B, index) for index in range(count_shortest(P, A, B))]
[[2, 4, 6, 1], [4, 6, 1, 2]]
""",
    17: """
>>> O = "one"
>>> P = [(0, O), (1, O), (2, O), (2, O), (1, "tab"), (2, O), (2, O), (1, "step"), (2, O), (2, O), (2, O)]
>>> F = [0, 0, 0, 0, 5, 0, 0, 8, 0, 0, 0]
>>> from accordions.layers import farthest, nth_at, numbers_by_distance, rank_at
>>> [numbers_by_distance(P, F), farthest(P, F), nth_at(P, F, 8, 1)[:8], rank_at(P, F, F)]
[[1, 3, 4, 13, 13, 16, 12, 8, 2], (8, 2), [0, 3, 0, 0, 6, 0, 0, 10], 0]
""",
    19: """
>>> O = "one"
>>> P = [(0, O), (1, O), (2, O), (2, O), (1, "tab"), (2, O), (2, O), (1, "step"), (2, O), (2, O), (2, O)]
>>> F = [0, 0, 0, 0, 5, 0, 0, 8, 0, 0, 0]
>>> G = [1, 3, 0, 0, 6, 0, 0, 10, 0, 0, 0]
>>> from accordions.tours import count_tours, fewest_to_show, is_tour, nth_tour
>>> [fewest_to_show(P, F, [3, 6, 9]), count_tours(P, F, [3, 6, 9]), nth_tour(P, F, [3, 6, 9], 0)]
[6, 6, [1, 3, 4, 6, 7, 9]]
>>> [fewest_to_show(P, G, [0, 3, 10]), count_tours(P, G, []), is_tour(P, G, [10], [7])]
[1, 1, True]
""",
    21: """
>>> O = "one"
>>> P = [(0, O), (1, O), (2, O), (2, O), (1, "tab"), (2, O), (2, O), (1, "step"), (2, O), (2, O), (2, O)]
>>> from accordions.effects import count_ends, count_starts, effect_of, effect_of_rounds, same_effect
>>> effect_of(P, [4, 6])
[(0, [(0, 4), (1, 4), (7, 4)]), (1, [(0, 0), (2, 2), (3, 3)]), (4, [(5, 6), (6, 6)]), (7, [(8, 8), (9, 9), (10, 10)])]
>>> [count_starts(P, [4, 6]), count_ends(P, [4, 6]), effect_of_rounds(P, [4, 6], 2)[0]]
[54, 9, (0, [])]
>>> effect_of_rounds(P, [4, 4], 10 ** 30)[0]
(0, [(0, 0), (1, 0), (4, 4), (7, 0)])
>>> [same_effect(P, [4, 4], [4, 4, 4, 4]), same_effect(P, [1, 4], [7, 4]), same_effect(P, [4], [4, 4, 4])]
[True, True, True]
""",
    23: """
>>> O = "one"
>>> P = [(0, O), (1, O), (2, O), (2, O), (1, "tab"), (2, O), (2, O), (1, "step"), (2, O), (2, O), (2, O)]
>>> F = [0, 0, 0, 0, 5, 0, 0, 8, 0, 0, 0]
>>> G = [1, 3, 0, 0, 6, 0, 0, 10, 0, 0, 0]
>>> from accordions.views import clicks_of, count_alike, count_beginnings, is_view, known_settings, view_of
>>> [view_of(P, G), count_alike(P, G), is_view(P, [(1, True), (4, False), (7, False)])]
[[(1, True), (2, False), (3, True), (4, False), (7, False)], 6, False]
>>> V = [view_of(P, F), view_of(P, G), view_of(P, [1, 0, 0, 0, 5, 0, 0, 8, 0, 0, 0])]
>>> [clicks_of(P, V), count_beginnings(P, V), known_settings(P, V), clicks_of(P, [V[0], V[0]])]
[[1, 3], 6, [1, 0, 0, 0, None, 0, 0, None, 0, 0, 0], None]
""",
    26: """
>>> O = "one"
>>> P = [(0, O), (1, O), (2, O), (2, O), (1, "tab"), (2, O), (2, O), (1, "step"), (2, O), (2, O), (2, O)]
>>> from accordions.menu import ForgetfulCountingMenu, Menu
>>> menu = Menu(P)
>>> [menu.click(7, 9, 9, 1), menu.state[:8], menu.show(10), menu.shown, menu.pressed]
[[True, True, False, True], [1, 0, 0, 0, 5, 0, 0, 9], [7, 10], [0, 7, 10], [7, 9, 9, 1, 7, 10]]
>>> other = ForgetfulCountingMenu(P)
>>> [other.click(7, 9, 1), other.show(10), other.counts, other.report()]
[[True, True, True], [7, 9, 10], [(1, 1), (7, 2), (9, 2), (10, 1)], ['shown 3', 'clicks 6', 'forgets']]
""",
    28: """
>>> O = "one"
>>> P = [(0, O), (1, O), (2, O), (2, O), (1, "tab"), (2, O), (2, O), (1, "step"), (2, O), (2, O), (2, O)]
>>> G = [1, 3, 0, 0, 6, 0, 0, 10, 0, 0, 0]
>>> from accordions.text import format_plan, format_state, parse_plan, parse_state
>>> [format_plan(P), parse_plan("tab(one step)"), format_state(P, G), parse_state([(0, O)], "")]
['one(one(one one) tab(one one) step(one one one))', [(0, 'tab'), (1, 'one'), (1, 'step')], '0:1 1:3 4:6 7:10', [0]]
""",
}


class DocumentTest(unittest.TestCase):
    def tearDown(self):
        # An example that is run leaves its value behind under this name.
        vars(builtins).pop("_", None)

    def test_all_points_with_examples(self):
        self.assertEqual(sorted(EXAMPLES), [10, 11, 12, 13, 14, 16, 17, 19, 21, 23, 26, 28])

    def test_examples(self):
        for point, text in EXAMPLES.items():
            with self.subTest(point=point):
                told = []
                example = DocTestParser().get_doctest(text, {}, f"point {point}", None, 0)
                result = DocTestRunner(verbose=False).run(example, out=told.append)
                self.assertGreater(result.attempted, 2)
                self.assertEqual(result.failed, 0, "".join(told))


if __name__ == "__main__":
    unittest.main()
