import unittest

from tests.helper import HUGE, bounds, cache, graph, graph_of, last, lock, run, unlock, warm


def told(sure, possible):
    """The answer that tells these pairs of a line and its age."""
    numbers = [0]
    for pairs in (sure, possible):
        numbers.append(len(pairs))
        for line, age in pairs:
            numbers += [line, age]
    return numbers


class OneStateTest(unittest.TestCase):
    """Where one way alone leads to the node, the bounds are the state's ages."""

    def check(self, before, lines, pairs):
        chain = graph_of([[line] for line in lines] + [[]], [(node, node + 1) for node in range(len(lines))])
        self.assertEqual(last(*before, chain, bounds(len(lines))), told(pairs, pairs))

    def test_rule_0(self):
        self.check([cache(1, 4, 0)], [1, 2, 3, 2], [(1, 2), (2, 0), (3, 1)])
        self.check([cache(1, 2, 0)], [1, 2, 1, 3], [(1, 1), (3, 0)])

    def test_rule_1(self):
        self.check([cache(1, 4, 1)], [1, 2, 3, 2], [(1, 2), (2, 1), (3, 0)])
        self.check([cache(1, 2, 1)], [1, 2, 1, 3], [(2, 1), (3, 0)])

    def test_two_sets(self):
        self.check([cache(2, 2, 0), warm(0, 1, 2, 3)], [4], [(1, 1), (2, 1), (3, 0), (4, 0)])
        self.check([cache(2, 2, 1), warm(0, 1, 2, 3)], [0, 5], [(0, 1), (2, 0), (3, 1), (5, 0)])

    def test_four_sets(self):
        self.check([cache(4, 1, 0), warm(0, 1, 2, 3)], [31, 5], [(0, 0), (2, 0), (5, 0), (31, 0)])
        self.check([cache(4, 1, 1), warm(0, 1, 2, 3)], [31, 5], [(0, 0), (2, 0), (5, 0), (31, 0)])

    def test_locked_lines_are_neither(self):
        for rule in (0, 1):
            self.check([cache(1, 3, rule), lock(5)], [5, 1, 2, 5, 3], [(2, 1), (3, 0)])

    def test_a_set_with_no_room(self):
        for rule in (0, 1):
            self.check([cache(1, 1, rule), lock(5)], [6, 5, 6], [])
            self.check([cache(2, 1, rule), lock(4), warm(6, 7)], [8, 6, 4, 8], [(7, 0)])

    def test_warm_lines(self):
        self.check([cache(1, 2, 0), warm(1, 2)], [1], [(1, 0), (2, 1)])
        self.check([cache(1, 2, 1), warm(1, 2)], [1], [(1, 1), (2, 0)])
        self.check([cache(1, 2, 0), warm(1, 2)], [], [(1, 1), (2, 0)])

    def test_the_locked_lines_of_now(self):
        before = [cache(1, 2, 0), warm(1, 2), lock(2)]
        self.check(before, [], [(1, 0)])
        self.check(before + [unlock(2)], [], [(1, 1), (2, 0)])


class JoinedTest(unittest.TestCase):
    def test_sure_by_both_ways_possible_by_one(self):
        # By node 1 the state is 3 2 1, by node 2 it's 1 2 4: node 3 stands behind both.
        lines = [[], [1], [4], [], [2], [2], [3], [1]]
        edges = [(0, 1), (1, 4), (4, 6), (6, 3), (0, 2), (2, 5), (5, 7), (7, 3)]
        for rule in (0, 1):
            self.assertEqual(last(cache(1, 3, rule), graph_of(lines, edges), bounds(3)),
                             told([(1, 2), (2, 1)], [(1, 0), (2, 1), (3, 0), (4, 2)]))

    def test_a_nodes_lines_are_joined(self):
        made = graph_of([[8, 4, 6], []], [(0, 1)])
        self.assertEqual(last(cache(1, 2, 0), warm(4), made, bounds(1)),
                         told([(4, 1)], [(4, 0), (6, 0), (8, 0)]))
        self.assertEqual(last(cache(4, 1, 0), warm(4), made, bounds(1)),
                         told([], [(4, 0), (6, 0), (8, 0)]))

    def test_two_ways_of_which_one_touches(self):
        # Line 1 is possible before node 3, and not sure.
        made = graph_of([[], [1], [2], [1], []], [(0, 1), (0, 2), (1, 3), (2, 3), (3, 4)])
        self.assertEqual(last(cache(1, 3, 0), made, bounds(3)), told([], [(1, 0), (2, 0)]))
        self.assertEqual(last(cache(1, 3, 0), made, bounds(4)), told([(1, 0)], [(1, 0), (2, 1)]))
        self.assertEqual(last(cache(1, 3, 1), made, bounds(4)), told([(1, 2)], [(1, 0), (2, 0)]))

    def test_a_possible_line_that_is_not_the_newest(self):
        # Before node 4 the state is 3 1 or 5 4.
        made = graph_of([[], [3], [4], [5], [1], []], [(0, 1), (1, 4), (0, 2), (2, 3), (3, 4), (4, 5)])
        start = [warm(1), made]
        self.assertEqual(last(cache(1, 2, 0), *start, bounds(4)), told([], [(1, 1), (3, 0), (4, 1), (5, 0)]))
        self.assertEqual(last(cache(1, 2, 0), *start, bounds(5)), told([(1, 0)], [(1, 0), (3, 1), (5, 1)]))
        self.assertEqual(last(cache(1, 2, 1), *start, bounds(5)),
                         told([(1, 1)], [(1, 0), (3, 0), (4, 1), (5, 0)]))

    def test_the_room_tells_the_age_by_rule_1(self):
        made = graph_of([[], [1], [2], [1], []], [(0, 1), (0, 2), (1, 3), (2, 3), (3, 4)])
        self.assertEqual(last(cache(1, 4, 1), lock(9), made, bounds(4)), told([(1, 2)], [(1, 0), (2, 0)]))
        self.assertEqual(last(cache(1, 4, 1), made, bounds(4)), told([(1, 3)], [(1, 0), (2, 0)]))
        # With two sets 2 is in another one, and 1 is there by one way alone.
        self.assertEqual(last(cache(2, 4, 1), lock(9), made, bounds(4)), told([(1, 2)], [(1, 0), (2, 0)]))

    def test_only_younger_sure_lines_get_older_by_rule_0(self):
        made = graph_of([[1], []], [(0, 1)])
        pairs = [(1, 0), (2, 2), (3, 1)]
        self.assertEqual(last(cache(1, 4, 0), warm(2, 1, 3), made, bounds(1)), told(pairs, pairs))

    def test_lines_of_the_same_age(self):
        # Before node 5 the state is 2 1 or 1 2.
        lines = [[], [1], [2], [2], [1], [1], []]
        edges = [(0, 1), (1, 2), (2, 5), (0, 3), (3, 4), (4, 5), (5, 6)]
        joined = told([(1, 1), (2, 1)], [(1, 0), (2, 0)])
        answers = run(cache(1, 4, 0), graph_of(lines, edges), bounds(5), bounds(6))
        self.assertEqual(answers[2:], [joined, told([(1, 0), (2, 1)], [(1, 0), (2, 1)])])
        answers = run(cache(1, 4, 1), graph_of(lines, edges), bounds(5), bounds(6))
        self.assertEqual(answers[2:], [joined, joined])

    def test_one_set_has_no_room(self):
        made = graph_of([[6, 9], []], [(0, 1)])
        for rule in (0, 1):
            before = [cache(2, 1, rule), lock(4), warm(6, 7), made]
            self.assertEqual(last(*before, bounds(0)), told([(7, 0)], [(7, 0)]))
            self.assertEqual(last(*before, bounds(1)), told([], [(7, 0), (9, 0)]))


class RoundsTest(unittest.TestCase):
    def test_an_edge_from_a_node_to_itself(self):
        # Node 0 keeps the state at first among what is joined.
        made = graph(1, 1, 4, 0, 0)
        self.assertEqual(last(cache(1, 2, 0), warm(3), made, bounds(0)), told([], [(3, 0), (4, 0)]))
        self.assertEqual(last(cache(1, 2, 0), warm(3, 4), made, bounds(0)),
                         told([(3, 1), (4, 0)], [(3, 1), (4, 0)]))
        self.assertEqual(last(cache(1, 2, 1), warm(4, 3), made, bounds(0)),
                         told([(3, 0), (4, 1)], [(3, 0), (4, 1)]))
        self.assertEqual(last(cache(1, 2, 0), warm(4, 3), made, bounds(0)),
                         told([(3, 1), (4, 1)], [(3, 0), (4, 0)]))

    def test_not_come_to(self):
        self.assertEqual(last(graph(2, 1, 5, 1, 6), bounds(1)), [1])
        self.assertEqual(last(graph(2, 1, 5, 1, 6, 1, 1), bounds(1)), [1])
        self.assertEqual(last(graph(3, 1, 5, 1, 6, 0, 1, 2, 2, 1, 1, 0), bounds(2)), [1])

    def test_what_is_not_come_to_is_not_joined(self):
        made = graph(3, 1, 5, 1, 6, 0, 0, 2, 1, 2, 1, 0)
        self.assertEqual(run(made, bounds(0), bounds(2))[1:], [[0, 0, 0], told([(5, 0)], [(5, 0)])])

    def test_nodes_without_lines(self):
        made = graph(4, 0, 1, 7, 0, 0, 0, 1, 1, 2, 2, 3, 3, 2)
        answers = run(made, *[bounds(node) for node in range(4)])
        self.assertEqual(answers[1:], [[0, 0, 0], [0, 0, 0]] + [told([(7, 0)], [(7, 0)])] * 2)

    def test_back_to_the_first_node(self):
        made = graph(2, 1, 5, 0, 0, 1, 1, 0)
        self.assertEqual(run(made, bounds(0), bounds(1))[1:],
                         [told([], [(5, 0)]), told([(5, 0)], [(5, 0)])])

    def test_rounds_in_which_only_what_is_possible_changes(self):
        made = graph_of([[1, 2], [3, 4]], [(0, 1), (1, 0)])
        self.assertEqual(run(made, bounds(0), bounds(1))[1:],
                         [told([], [(1, 1), (2, 1), (3, 0), (4, 0)]), told([], [(1, 0), (2, 0), (3, 1), (4, 1)])])

    def test_twelve_nodes_one_behind_another(self):
        made = graph_of([[node] for node in range(12)], [(node, node + 1) for node in range(10, -1, -1)])
        self.assertEqual(last(cache(1, 2, 0), made, bounds(11)), told([(9, 1), (10, 0)], [(9, 1), (10, 0)]))

    def test_no_nodes_number(self):
        for number in (-HUGE, -1, 2, 12, HUGE):
            self.assertEqual(last(graph(2, 1, 5, 1, 6), bounds(number)), [-3])


if __name__ == "__main__":
    unittest.main()
