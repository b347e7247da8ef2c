import unittest

from tests.helper import cache, exact, fan_out, graph, graph_of, last, lock, loop_of_lines, run, unlock, warm


class ExactTest(unittest.TestCase):
    def check(self, before, made, expected):
        for rule in (0, 1):
            self.assertEqual(last(cache(1, 2, rule), *before, made, exact()), expected, rule)

    def test_at_the_beginning(self):
        self.assertEqual(last(exact()), [0, 1, 0])

    def test_without_lines(self):
        self.check([], graph_of([[], []], [(0, 1), (1, 0)]), [0, 2, 0, 0])
        self.check([], graph_of([[5], []], []), [0, 1, 2, 0])

    def test_not_come_to(self):
        self.check([], graph_of([[5], [5], [6, 7]], [(1, 2), (2, 1), (1, 0)]), [0, 1, 2, 4, 4])
        self.check([lock(5)], graph_of([[], [5]], []), [0, 1, 0, 4])

    def test_always_hit(self):
        self.check([warm(5)], graph_of([[5]], []), [0, 1, 1])
        self.check([warm(5, 6)], graph_of([[6, 5]], []), [0, 1, 1])
        self.check([], graph_of([[5], [5]], [(0, 1), (1, 1)]), [0, 2, 2, 1])

    def test_always_miss(self):
        self.check([], graph_of([[5, 6, 7]], []), [0, 1, 2])
        # Of three lines in turn none is there again with two ways.
        self.check([], graph_of([[1], [2], [3]], [(0, 1), (1, 2), (2, 0)]), [0, 5, 2, 2, 2])

    def test_neither(self):
        self.check([warm(5)], graph_of([[5, 6]], []), [0, 1, 3])
        self.check([], graph_of([[5]], [(0, 0)]), [0, 2, 3])
        self.check([], graph_of([[5], [6], [5]], [(0, 1), (0, 2), (1, 2)]), [0, 4, 2, 2, 1])
        self.check([], graph_of([[], [5], [5]], [(0, 1), (0, 2), (1, 2)]), [0, 4, 0, 2, 3])

    def test_all_classes_in_one_graph(self):
        self.check([], graph_of([[5], [5], [5, 6], [], [7]], [(0, 1), (1, 2), (2, 3)]), [0, 5, 2, 1, 3, 0, 4])

    def test_the_rules_differ(self):
        made = graph_of([[1], [3], [1], [2]], [(0, 1), (1, 2), (1, 3)])
        self.assertEqual(last(cache(1, 2, 0), warm(1, 2), made, exact()), [0, 4, 1, 2, 1, 2])
        self.assertEqual(last(cache(1, 2, 1), warm(1, 2), made, exact()), [0, 4, 1, 2, 2, 1])

    def test_locked_lines(self):
        self.check([lock(5)], graph_of([[5], [5, 6], [6, 7]], [(0, 1), (1, 2)]), [0, 4, 1, 3, 3])
        self.check([lock(5), unlock(5)], graph_of([[5]], []), [0, 1, 2])

    def test_a_set_with_no_room(self):
        made = graph_of([[6], [5], [5, 7]], [(0, 1), (1, 2), (2, 0)])
        for rule in (0, 1):
            self.assertEqual(last(cache(1, 1, rule), lock(5), made, exact()), [0, 3, 2, 1, 3])


class MomentsTest(unittest.TestCase):
    def test_how_many(self):
        made = graph_of([[1, 2, 3]], [(0, 0)])
        told = [last(cache(1, ways, rule), made, exact()) for rule in (0, 1) for ways in (1, 2, 3, 4)]
        # No line, one, two or three of them, in any order.
        self.assertEqual(told, [[0, count, 3] for count in (4, 10, 16, 16)] * 2)

    def test_how_many_with_sets(self):
        # The sets are told apart: 0 and 4 share one of 4, all three one of 2.
        made = graph_of([[0, 2, 4]], [(0, 0)])
        self.assertEqual(last(cache(4, 1, 0), made, exact()), [0, 6, 3])
        self.assertEqual(last(cache(2, 1, 0), made, exact()), [0, 4, 3])

    def test_the_same_state_is_one_moment(self):
        made = graph_of([[], [5], [5], []], [(0, 1), (0, 2), (1, 3), (2, 3), (2, 3)])
        self.assertEqual(last(made, exact()), [0, 4, 0, 2, 2, 0])

    def test_four_hundred(self):
        self.assertEqual(last(*fan_out(0), exact()), [0, 400] + [2] * 8 + [0, 0])

    def test_one_more(self):
        self.assertEqual(last(*fan_out(1), exact()), [2])

    def test_many_more(self):
        self.assertEqual(last(*fan_out(2), exact()), [2])
        self.assertEqual(last(*loop_of_lines(12), exact()), [2])

    def test_what_is_held_stays(self):
        told = run(*loop_of_lines(3), exact(), cache(1, 1, 0), exact(), graph(1, 1, 5), exact())
        # With one way there are 3 states before each node, and the empty one before node 0.
        self.assertEqual(told[2:], [[2], [0], [0, 10, 2, 2, 2], [0, 1, 0], [0, 1, 2]])


if __name__ == "__main__":
    unittest.main()
