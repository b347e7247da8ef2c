import unittest

from tests.helper import HUGE, cache, fan_out, graph_of, last, lock, loop_of_lines, run, show, warm


def told(hit, miss):
    """The answer that tells these ways, each of pairs of a node and its line (None if it has none)."""
    numbers = [0]
    for way in (hit, miss):
        numbers.append(len(way))
        for node, line in way:
            numbers += [node, 0 if line is None else line + 1]
    return numbers


class ShowTest(unittest.TestCase):
    def test_the_numbers_as_they_stand(self):
        self.assertEqual(last(graph_of([[5]], [(0, 0)]), show(0)), [0, 2, 0, 6, 0, 6, 1, 0, 6])
        self.assertEqual(last(graph_of([[], [0]], [(0, 1), (1, 1)]), show(1)),
                         [0, 3, 0, 0, 1, 1, 1, 1, 2, 0, 0, 1, 1])

    def test_first_and_last_line(self):
        for line in (0, 31):
            self.assertEqual(last(graph_of([[line]], [(0, 0)]), show(0)),
                             told([(0, line), (0, line)], [(0, line)]))

    def test_nodes_without_lines(self):
        made = graph_of([[], [5], []], [(0, 1), (1, 2), (2, 1)])
        self.assertEqual(last(made, show(1)), told([(0, None), (1, 5), (2, None), (1, 5)], [(0, None), (1, 5)]))

    def test_an_edge_told_twice(self):
        made = graph_of([[], [5], []], [(0, 1), (1, 2), (0, 1), (2, 1), (1, 2), (2, 1)])
        self.assertEqual(last(made, show(1)), told([(0, None), (1, 5), (2, None), (1, 5)], [(0, None), (1, 5)]))

    def test_a_miss_behind_a_hit(self):
        # Line 1 is warm; 2 and 3 push it out.
        made = graph_of([[1], [2], [3]], [(0, 1), (1, 2), (2, 0)])
        self.assertEqual(last(cache(1, 2, 0), warm(1), made, show(0)),
                         told([(0, 1)], [(0, 1), (1, 2), (2, 3), (0, 1)]))

    def test_by_the_rule(self):
        made = graph_of([[1], [2], [3]], [(0, 1), (1, 0), (0, 2), (2, 0)])
        start = [warm(1, 2), made]
        self.assertEqual(last(cache(1, 2, 0), *start, show(0)), [1])
        self.assertEqual(last(cache(1, 2, 1), *start, show(0)), told([(0, 1)], [(0, 1), (2, 3), (0, 1)]))
        self.assertEqual(last(cache(1, 2, 0), *start, show(1)), told([(0, 1), (1, 2)],
                                                                    [(0, 1), (2, 3), (0, 1), (1, 2)]))

    def test_the_first_line_that_does(self):
        before = [cache(1, 4, 0), warm(5, 8)]
        for lines, hit, miss in (([5, 8, 6], 5, 6), ([8, 5, 6], 8, 6), ([6, 7, 5], 5, 6), ([7, 8, 6], 8, 7)):
            self.assertEqual(last(*before, graph_of([lines], []), show(0)), told([(0, hit)], [(0, miss)]))

    def test_the_first_moment_that_does(self):
        lines = [[], [5], [6], [5, 6]]
        to_one_first = graph_of(lines, [(0, 1), (0, 2), (1, 3), (2, 3)])
        to_two_first = graph_of(lines, [(0, 2), (0, 1), (1, 3), (2, 3)])
        self.assertEqual(last(to_one_first, show(3)), told([(0, None), (1, 5), (3, 5)], [(0, None), (1, 5), (3, 6)]))
        self.assertEqual(last(to_two_first, show(3)), told([(0, None), (2, 6), (3, 6)], [(0, None), (2, 6), (3, 5)]))

    def test_a_moment_comes_ahead_of_a_line(self):
        # In the first moment the last line is a hit, in later ones the first line too.
        made = graph_of([[4, 5], [5, 6, 4]], [(0, 1), (1, 1)])
        self.assertEqual(last(cache(1, 4, 0), made, show(1)), told([(0, 4), (1, 4)], [(0, 4), (1, 5)]))

    def test_a_state_is_shown_by_the_way_that_led_there_first(self):
        # By nodes 1 and 2 the same state comes to node 3; by node 2 with the edge told first.
        lines = [[], [5], [5], [5, 6]]
        made = graph_of(lines, [(2, 3), (1, 3), (0, 2), (0, 1)])
        self.assertEqual(last(made, show(3)), told([(0, None), (2, 5), (3, 5)], [(0, None), (2, 5), (3, 6)]))
        made = graph_of(lines, [(2, 3), (1, 3), (0, 1), (0, 2)])
        self.assertEqual(last(made, show(3)), told([(0, None), (1, 5), (3, 5)], [(0, None), (1, 5), (3, 6)]))

    def test_a_shorter_way_to_the_same_state(self):
        made = graph_of([[5], [5], [5, 6]], [(0, 1), (1, 2), (0, 2)])
        self.assertEqual(last(made, show(2)), told([(0, 5), (2, 5)], [(0, 5), (2, 6)]))

    def test_several_nodes_of_one_graph(self):
        made = graph_of([[1, 2], [], [2, 3], [1]], [(0, 1), (1, 2), (2, 3), (3, 0)])
        answers = run(cache(1, 2, 0), made, show(0), show(2), show(3))[2:]
        loop = [(0, 1), (1, None), (2, 2), (3, 1)]
        self.assertEqual(answers[0], told(loop + [(0, 1)], [(0, 1)]))
        self.assertEqual(answers[1], told([(0, 2), (1, None), (2, 2)], [(0, 1), (1, None), (2, 2)]))
        self.assertEqual(answers[2], told(loop, [(0, 2), (1, None), (2, 2), (3, 1)]))

    def test_locked_lines(self):
        made = graph_of([[5, 6]], [(0, 0)])
        self.assertEqual(last(cache(1, 1, 0), lock(6), made, show(0)), told([(0, 6)], [(0, 5)]))
        self.assertEqual(last(cache(1, 2, 0), lock(5), lock(6), made, show(0)), [1])

    def test_a_long_way(self):
        # Round a loop of 12 nodes of which one has a line.
        lines = [[]] * 5 + [[5]] + [[]] * 6
        made = graph_of(lines, [(node, (node + 1) % 12) for node in range(12)])
        once = [(node, None if node != 5 else 5) for node in range(12)]
        self.assertEqual(last(made, show(5)), told(once + once[:6], once[:6]))

    def test_two_sets(self):
        made = graph_of([[0, 1], [2], [0]], [(0, 1), (1, 2), (2, 2)])
        self.assertEqual(last(cache(2, 1, 0), made, show(2)), told([(0, 0), (1, 2), (2, 0), (2, 0)],
                                                                  [(0, 0), (1, 2), (2, 0)]))
        self.assertEqual(last(cache(2, 2, 0), made, show(2)), told([(0, 0), (1, 2), (2, 0)],
                                                                  [(0, 1), (1, 2), (2, 0)]))


class NothingShownTest(unittest.TestCase):
    def test_a_node_of_another_class(self):
        made = graph_of([[5], [5], [], [7], [5, 6], []], [(0, 1), (1, 2), (2, 4)])
        answers = run(made, *[show(node) for node in range(6)])[1:]
        self.assertEqual(answers[:4] + answers[5:], [[1]] * 5)
        self.assertEqual(answers[4][0], 0)

    def test_neither_by_bounds_alone(self):
        made = graph_of([[5], [5, 6], [5]], [(0, 1), (1, 1), (1, 2)])
        self.assertEqual(last(cache(1, 2, 0), made, show(2)), [1])

    def test_no_nodes_number(self):
        for number in (-HUGE, -1, 2, 12, HUGE):
            self.assertEqual(last(graph_of([[5], [6]], []), show(number)), [-3])

    def test_no_nodes_number_where_there_are_too_many(self):
        for number in (-1, 11, HUGE):
            self.assertEqual(last(*fan_out(1), show(number)), [-3])

    def test_too_many(self):
        for node in (0, 5, 10):
            self.assertEqual(last(*fan_out(1), show(node)), [2])
        self.assertEqual(last(*fan_out(0), show(7)), [1])
        self.assertEqual(last(*loop_of_lines(12), show(11)), [2])


if __name__ == "__main__":
    unittest.main()
