import unittest

from tests.helper import cache, classes, exact, graph, graph_of, last, lock, run, unlock, warm


class ClassesTest(unittest.TestCase):
    def check(self, rules, before, made, expected):
        """The classes by each of the rules, with one set and two ways."""
        for rule in rules:
            self.assertEqual(last(cache(1, 2, rule), *before, made, classes()), expected, rule)

    def test_at_the_beginning(self):
        self.assertEqual(last(classes()), [0, 1, 0])

    def test_without_lines(self):
        self.check((0, 1), [], graph_of([[], []], [(0, 1)]), [0, 2, 0, 0])

    def test_without_lines_and_not_come_to(self):
        self.check((0, 1), [], graph_of([[5], []], []), [0, 1, 2, 0])

    def test_not_come_to(self):
        self.check((0, 1), [], graph_of([[5], [5], [6, 7]], [(1, 2), (2, 1), (1, 0)]), [0, 1, 2, 4, 4])
        self.check((0, 1), [warm(5)], graph_of([[], [5]], []), [0, 1, 0, 4])
        self.check((0, 1), [lock(5)], graph_of([[], [5]], []), [0, 1, 0, 4])

    def test_always_hit(self):
        self.check((0, 1), [warm(5)], graph_of([[5]], []), [0, 1, 1])
        self.check((0, 1), [warm(5, 6)], graph_of([[5, 6]], []), [0, 1, 1])
        self.check((0, 1), [], graph_of([[5], [5]], [(0, 1)]), [0, 2, 2, 1])

    def test_always_miss(self):
        self.check((0, 1), [], graph_of([[5]], []), [0, 1, 2])
        self.check((0, 1), [warm(5)], graph_of([[6, 7, 8]], []), [0, 1, 2])

    def test_neither(self):
        self.check((0, 1), [warm(5)], graph_of([[5, 6]], []), [0, 1, 3])
        self.check((0, 1), [warm(5)], graph_of([[6, 5]], []), [0, 1, 3])
        self.check((0, 1), [], graph_of([[5, 6], [5]], [(0, 1)]), [0, 2, 2, 3])

    def test_a_hit_changes_what_goes_by_rule_0_alone(self):
        made = graph_of([[1], [3], [1], [2]], [(0, 1), (1, 2), (1, 3)])
        self.check((0,), [warm(1, 2)], made, [0, 3, 1, 2, 1, 2])
        self.check((1,), [warm(1, 2)], made, [0, 3, 1, 2, 2, 1])

    def test_a_sure_line_that_may_be_the_last_one_by_rule_1(self):
        # Line 1 is possible before node 3: it's sure behind it, though by rule 1 perhaps the next to go.
        made = graph_of([[], [1], [2], [1], [3], [1]], [(0, 1), (0, 2), (1, 3), (2, 3), (3, 4), (4, 5)])
        self.check((0,), [], made, [0, 5, 0, 2, 2, 3, 2, 1])
        self.check((1,), [], made, [0, 5, 0, 2, 2, 3, 2, 3])

    def test_all_classes_in_one_graph(self):
        made = graph_of([[5], [5], [5, 6], [], [7]], [(0, 1), (1, 2), (2, 3)])
        self.check((0, 1), [], made, [0, 4, 2, 1, 3, 0, 4])

    def test_what_bounds_do_not_tell(self):
        # By all states node 2 always hits, by bounds it isn't known.
        made = graph(3, 1, 5, 2, 5, 6, 1, 5, 0, 1, 1, 1, 1, 2)
        self.check((0, 1), [], made, [0, 4, 2, 3, 3])
        self.assertEqual(last(cache(1, 2, 0), made, exact()), [0, 7, 2, 3, 1])


class RoundsMadeTest(unittest.TestCase):
    def test_the_first_round_changes_nothing(self):
        self.assertEqual(last(graph(1, 1, 5), classes()), [0, 1, 2])
        self.assertEqual(last(warm(5), graph(1, 1, 5, 0, 0), classes()), [0, 1, 1])

    def test_a_node_to_itself(self):
        for rule in (0, 1):
            self.assertEqual(last(cache(1, 2, rule), graph(1, 1, 5, 0, 0), classes()), [0, 2, 3])

    def test_one_more_for_each_node_of_a_row(self):
        for nodes in range(1, 13):
            made = graph_of([[node] for node in range(nodes)], [(node, node + 1) for node in range(nodes - 1)])
            self.assertEqual(last(made, classes()), [0, nodes] + [2] * nodes)

    def test_the_order_of_the_edges_is_all_the_same(self):
        edges = [(node, node + 1) for node in range(11)]
        lines = [[node] for node in range(12)]
        self.assertEqual(last(graph_of(lines, edges[::-1]), classes()), last(graph_of(lines, edges), classes()))

    def test_a_line_that_gets_older_round_by_round(self):
        # At node 1 the age of 5 is 0, round by round 1 more, then it isn't sure; the last round changes nothing.
        made = graph_of([[5], [6, 7, 8], [5]], [(0, 1), (1, 1), (1, 2)])
        self.assertEqual(last(cache(1, 4, 0), made, classes()), [0, 6, 2, 3, 3])
        self.assertEqual(last(cache(1, 3, 0), made, classes()), [0, 5, 2, 3, 3])

    def test_an_edge_told_twice(self):
        self.assertEqual(last(graph_of([[5], [5]], [(0, 1), (0, 1)]), classes()), [0, 2, 2, 1])


class LockedAndSetsTest(unittest.TestCase):
    def test_locked_lines(self):
        for rule in (0, 1):
            before = [cache(1, 2, rule), lock(5)]
            self.assertEqual(last(*before, graph(1, 1, 5), classes()), [0, 1, 1])
            self.assertEqual(last(*before, graph(1, 2, 5, 6), classes()), [0, 1, 3])
            self.assertEqual(last(*before, graph(1, 2, 6, 5), classes()), [0, 1, 3])
            self.assertEqual(last(*before, graph(1, 2, 6, 7), classes()), [0, 1, 2])
            self.assertEqual(last(*before, warm(6), graph(1, 2, 5, 6), classes()), [0, 1, 1])
            self.assertEqual(last(*before, warm(5), unlock(5), graph(1, 1, 5), classes()), [0, 1, 1])
            self.assertEqual(last(*before, unlock(5), graph(1, 1, 5), classes()), [0, 1, 2])

    def test_a_set_with_no_room(self):
        made = graph_of([[6], [5], [6], [5, 6], [7]], [(0, 1), (1, 2), (2, 3), (3, 0), (2, 4)])
        for rule in (0, 1):
            self.assertEqual(last(cache(1, 1, rule), lock(5), made, classes()), [0, 4, 2, 1, 2, 3, 2])
            # With two sets 6 has room, 7 has none.
            self.assertEqual(last(cache(2, 1, rule), lock(5), made, classes()), [0, 5, 3, 1, 1, 1, 2])

    def test_warm_lines(self):
        made = graph_of([[1, 2]], [])
        self.assertEqual(run(cache(1, 2, 0), made, classes(), warm(1, 2), classes(), warm(1), classes(),
                             warm(1, 2, 3), classes(), warm(1, 3, 4), classes())[2::2],
                         [[0, 1, 2], [0, 1, 1], [0, 1, 3], [0, 1, 3], [0, 1, 2]])

    def test_four_sets(self):
        made = graph_of([[0], [1], [4], [0], [1]], [(0, 1), (1, 2), (2, 3), (3, 4)])
        self.assertEqual(last(cache(4, 1, 0), made, classes()), [0, 5, 2, 2, 2, 2, 1])


if __name__ == "__main__":
    unittest.main()
