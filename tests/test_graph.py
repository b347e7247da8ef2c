import unittest

from tests.helper import HUGE, bounds, graph, graph_of, last, run

# Node 0 with the line 9, and from it an edge to node 1; held before each refused row.
BEFORE = graph(2, 1, 9, 0, 0, 1)


class GraphTest(unittest.TestCase):
    def check_refused(self, *numbers):
        told = run(BEFORE, graph(*numbers), bounds(1), bounds(2))
        self.assertEqual(told[1:], [[-12], [0, 1, 9, 0, 1, 9, 0], [-3]], numbers)

    def test_how_many_nodes_and_edges(self):
        self.assertEqual(last(graph(1, 0)), [0, 1, 0])
        self.assertEqual(last(graph(3, 1, 5, 2, 5, 6, 1, 5, 0, 1, 1, 1, 1, 2)), [0, 3, 3])
        self.assertEqual(last(graph(12, *[0] * 12)), [0, 12, 0])
        self.assertEqual(last(graph(1, 3, 0, 31, 15, 0, 0)), [0, 1, 1])

    def test_the_greatest(self):
        lines = [[node, node + 12, 31] for node in range(12)]
        edges = [(node, (node * 5 + 1) % 12) for node in range(12)] * 2
        self.assertEqual(last(graph_of(lines, edges)), [0, 12, 24])

    def test_the_same_edge_twice(self):
        self.assertEqual(run(graph(2, 1, 9, 0, 0, 1, 0, 1), bounds(1)), [[0, 2, 2], [0, 1, 9, 0, 1, 9, 0]])

    def test_the_same_line_at_two_nodes(self):
        self.assertEqual(last(graph(2, 2, 4, 5, 2, 5, 4)), [0, 2, 0])

    def test_it_is_the_graph_from_now_on(self):
        told = run(BEFORE, graph(3, 1, 8, 1, 7, 0, 0, 2), bounds(2), bounds(1), bounds(3))
        self.assertEqual(told[1:], [[0, 3, 1], [0, 1, 8, 0, 1, 8, 0], [1], [-3]])

    def test_no_number_at_all(self):
        self.check_refused()

    def test_how_many_nodes_is_wrong(self):
        for nodes in (-HUGE, -1, 0, 13, HUGE):
            self.check_refused(nodes)
            self.check_refused(nodes, *[0] * 13)

    def test_how_many_lines_is_wrong(self):
        for count in (-HUGE, -1, 4, HUGE):
            self.check_refused(1, count)
            self.check_refused(1, count, 1, 2, 3, 4)
            self.check_refused(2, 0, count, 0, 0)

    def test_a_line_is_wrong(self):
        for line in (-HUGE, -1, 32, HUGE):
            self.check_refused(1, 1, line)
            self.check_refused(1, 3, line, 1, 2)
            self.check_refused(1, 3, 1, 2, line)
            self.check_refused(2, 1, 3, 2, 1, line)

    def test_two_lines_are_the_same(self):
        self.check_refused(1, 2, 5, 5)
        self.check_refused(1, 3, 5, 6, 5)
        self.check_refused(1, 3, 6, 5, 5)
        self.check_refused(2, 0, 3, 5, 5, 6, 0, 1)

    def test_an_edges_node_is_wrong(self):
        for node in (-HUGE, -1, 2, 12, HUGE):
            self.check_refused(2, 0, 0, node, 0)
            self.check_refused(2, 0, 0, 0, node)
            self.check_refused(2, 0, 0, 0, 1, 1, node)

    def test_half_an_edge(self):
        self.check_refused(2, 0, 0, 1)
        self.check_refused(2, 0, 0, 0, 1, 0)
        self.check_refused(1, 0, *[0] * 47)

    def test_too_many_edges(self):
        self.assertEqual(last(graph(1, 0, *[0] * 48)), [0, 1, 24])
        self.check_refused(1, 0, *[0] * 49)
        self.check_refused(1, 0, *[0] * 50)
        self.check_refused(1, 0, *[0] * 398)

    def test_it_ends_too_early(self):
        self.check_refused(1)
        self.check_refused(2, 0)
        self.check_refused(1, 1)
        self.check_refused(1, 3, 1, 2)
        self.check_refused(2, 1, 5)
        self.check_refused(2, 0, 2, 1)
        self.check_refused(12, *[0] * 11)


if __name__ == "__main__":
    unittest.main()
