import unittest

from tests.helper import HUGE, cache, fan_out, graph_of, last, lock, loop_of_lines, run, states, warm


class StatesTest(unittest.TestCase):
    def test_at_the_beginning(self):
        self.assertEqual(last(states(0)), [0, 1, 0])

    def test_the_state_at_first(self):
        made = graph_of([[5]], [])
        self.assertEqual(last(cache(1, 3, 0), warm(1, 2, 1), made, states(0)), [0, 1, 2, 1, 2])
        self.assertEqual(last(cache(1, 3, 1), warm(1, 2, 1), made, states(0)), [0, 1, 2, 2, 1])
        self.assertEqual(last(cache(2, 2, 0), warm(1, 2, 3), made, states(0)), [0, 1, 1, 2, 2, 3, 1])
        self.assertEqual(last(cache(4, 2, 0), warm(1, 2, 3), made, states(0)), [0, 1, 0, 1, 1, 1, 2, 1, 3])

    def test_locked_lines_are_not_told(self):
        made = graph_of([[5, 6], []], [(0, 1)])
        told = run(cache(1, 2, 0), warm(5, 6, 7), lock(6), made, states(0), states(1))
        self.assertEqual(told[4:], [[0, 1, 1, 7], [0, 2, 1, 5, 1, 7]])

    def test_a_set_with_no_room(self):
        made = graph_of([[6, 7], []], [(0, 1)])
        self.assertEqual(last(cache(1, 1, 0), lock(5), made, states(1)), [0, 1, 0])
        self.assertEqual(last(cache(2, 1, 0), lock(5), made, states(1)), [0, 2, 1, 6, 0, 0, 0])

    def test_in_the_order_of_a_nodes_lines(self):
        for lines, expected in (([5, 7, 6], [0, 3, 1, 5, 1, 7, 1, 6]), ([7, 6, 5], [0, 3, 1, 7, 1, 6, 1, 5])):
            self.assertEqual(last(graph_of([lines, []], [(0, 1)]), states(1)), expected)

    def test_two_sets(self):
        made = graph_of([[1, 0], [2, 3]], [(0, 1), (1, 1)])
        told = run(cache(2, 1, 0), made, states(0), states(1))
        self.assertEqual(told[2], [0, 1, 0, 0])
        # Behind the first state 2 1 and 3, behind the second 2 and 0 3, behind the third 2 3.
        self.assertEqual(told[3], [0, 7] + [0, 1, 1] + [1, 0, 0] + [1, 2, 1, 1] + [0, 1, 3] + [1, 2, 0]
                         + [1, 0, 1, 3] + [1, 2, 1, 3])

    def test_four_sets(self):
        made = graph_of([[2, 7], [6, 1], []], [(0, 1), (1, 2)])
        told = run(cache(4, 2, 1), made, states(1), states(2))
        self.assertEqual(told[2], [0, 2] + [0, 0, 1, 2, 0] + [0, 0, 0, 1, 7])
        self.assertEqual(told[3], [0, 4] + [0, 0, 2, 6, 2, 0] + [0, 1, 1, 1, 2, 0] + [0, 0, 1, 6, 1, 7]
                         + [0, 1, 1, 0, 1, 7])

    def test_in_the_order_of_the_edges(self):
        # The node to which the first edge leads is taken first, whichever number it has.
        lines = [[], [5], [6], []]
        to_one_first = graph_of(lines, [(0, 1), (0, 2), (1, 3), (2, 3)])
        to_two_first = graph_of(lines, [(0, 2), (0, 1), (1, 3), (2, 3)])
        self.assertEqual(last(to_one_first, states(3)), [0, 2, 1, 5, 1, 6])
        self.assertEqual(last(to_two_first, states(3)), [0, 2, 1, 6, 1, 5])

    def test_a_shorter_way_comes_first(self):
        made = graph_of([[5], [6], []], [(0, 1), (1, 2), (0, 2)])
        self.assertEqual(last(made, states(2)), [0, 2, 1, 5, 2, 6, 5])

    def test_lines_come_ahead_of_edges(self):
        # Behind node 0 come 1 with 5, 2 with 5, 1 with 6, 2 with 6; node 3 stands behind both.
        made = graph_of([[5, 6], [7], [8], []], [(0, 1), (0, 2), (1, 3), (2, 3)])
        self.assertEqual(last(made, states(3)), [0, 4, 2, 7, 5, 2, 8, 5, 2, 7, 6, 2, 8, 6])

    def test_back_at_the_first_node(self):
        made = graph_of([[5, 6]], [(0, 0), (0, 0)])
        self.assertEqual(last(cache(1, 2, 0), made, states(0)), [0, 5, 0, 1, 5, 1, 6, 2, 6, 5, 2, 5, 6])
        self.assertEqual(last(cache(1, 1, 1), made, states(0)), [0, 3, 0, 1, 5, 1, 6])

    def test_no_moment_at_the_node(self):
        made = graph_of([[5], [6], []], [(1, 2), (2, 0)])
        self.assertEqual(run(made, states(1), states(2))[1:], [[0, 0], [0, 0]])

    def test_no_nodes_number(self):
        for number in (-HUGE, -1, 2, 12, HUGE):
            self.assertEqual(last(graph_of([[5], [6]], []), states(number)), [-3])

    def test_four_hundred_moments(self):
        told = last(*fan_out(0), states(8))
        self.assertEqual(told[:2], [0, 9])
        self.assertEqual(told[2:], [number for one in (0, 1, 2) for two in (3, 4, 5) for number in (2, two, one)])
        self.assertEqual(last(*fan_out(0), states(7))[:7], [0, 81, 4, 18, 15, 12, 9])

    def test_too_many(self):
        for node in (0, 3, 9, 10):
            self.assertEqual(last(*fan_out(1), states(node)), [2])
        self.assertEqual(last(*loop_of_lines(5), states(4)), [2])

    def test_no_nodes_number_where_there_are_too_many(self):
        for number in (-1, 11, HUGE):
            self.assertEqual(last(*fan_out(1), states(number)), [-3])


if __name__ == "__main__":
    unittest.main()
