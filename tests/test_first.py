import unittest

from tests.helper import HUGE, cache, exact, fan_out, first, graph_of, last, lock, loop_of_lines, run, states, warm


def by_passed(in_front):
    """A cache and a graph with 201 moments, 400 if the node that can be passed by is watched.

    Each node without lines in front is one moment more, watched or not. Before the nodes of the row there are
    1, 3, 9, 27, 81, 54 and 18 states, and 3 before each of the two at its side, which stand behind the first:
    each of these is twice there, with the watched node on the way and without it.
    """
    row, place = [], 0
    for count in (3, 3, 3, 3, 2, 1, 0, 0, 0):
        row.append(list(range(place, place + count)))
        place += count
    edges = [(0, 1), (1, 2), (0, 2)] + [(node, node + 1) for node in range(2, 8)] + [(2, 9), (2, 10)]
    shifted = [(node, node + 1) for node in range(in_front)]
    shifted += [(source + in_front, target + in_front) for source, target in edges]
    return [cache(1, 4, 0), graph_of([[]] * (in_front + 2) + row, shifted)]


class FirstTest(unittest.TestCase):
    def check(self, before, made, expected):
        """What the call answers of each node, one number each."""
        answers = run(*before, made, *[first(node) for node in range(len(expected))])
        self.assertEqual(answers[len(before) + 1:], [[number] for number in expected])

    def test_at_the_beginning(self):
        self.assertEqual(last(first(0)), [1])

    def test_the_first_time_alone(self):
        self.check([], graph_of([[5]], [(0, 0)]), [1])
        self.check([cache(1, 2, 0)], graph_of([[5], [6]], [(0, 1), (1, 0)]), [1, 1])

    def test_again_and_again(self):
        self.check([cache(1, 1, 0)], graph_of([[5], [6]], [(0, 1), (1, 0)]), [0, 0])
        self.check([cache(1, 2, 0)], graph_of([[5], [6], [7]], [(0, 1), (1, 2), (2, 0)]), [0, 0, 0])

    def test_by_one_way_of_several(self):
        made = graph_of([[5], [6], [7], [8]], [(0, 1), (1, 0), (0, 2), (2, 3), (3, 0)])
        # With two ways node 0 misses again by way of 2 and 3 alone.
        self.check([cache(1, 2, 0)], made, [0, 0, 0, 0])
        self.check([cache(1, 3, 0)], made, [1, 0, 0, 0])
        self.check([cache(1, 4, 0)], made, [1, 1, 1, 1])

    def test_by_another_line_of_the_node(self):
        self.check([cache(1, 4, 0)], graph_of([[5, 6]], [(0, 0)]), [0])
        self.check([cache(1, 4, 0), warm(6)], graph_of([[5, 6]], [(0, 0)]), [0])
        self.check([cache(1, 4, 0), warm(5, 6)], graph_of([[5, 6]], [(0, 0)]), [1])

    def test_never_misses(self):
        self.check([warm(5)], graph_of([[5]], [(0, 0)]), [1])
        self.check([lock(5)], graph_of([[5]], [(0, 0)]), [1])
        self.check([cache(1, 1, 0)], graph_of([[5], [5], [6]], [(0, 1), (1, 2), (2, 0)]), [0, 1, 0])

    def test_always_misses_but_stands_there_once(self):
        self.check([cache(1, 1, 0)], graph_of([[5], [6], [5]], [(0, 1), (1, 2)]), [1, 1, 1])

    def test_without_lines(self):
        self.check([cache(1, 1, 0)], graph_of([[], [5], [6]], [(0, 1), (1, 2), (2, 0)]), [1, 0, 0])

    def test_not_come_to(self):
        self.check([], graph_of([[5], [6], [5, 7]], [(1, 2), (2, 1), (1, 1)]), [1, 1, 1])

    def test_missed_in_several_moments_for_the_first_time(self):
        # Node 0 goes round, and only then comes node 1, which is missed by every state.
        made = graph_of([[1, 2, 3], [5]], [(0, 0), (0, 1)])
        self.check([cache(1, 2, 0)], made, [0, 1])
        self.assertEqual(last(cache(1, 2, 0), made, states(1))[:2], [0, 9])

    def test_the_same_state_before_it_stood_there_and_behind(self):
        # Warm with 6 the first state at node 1 comes again behind it.
        made = graph_of([[], [5], [6]], [(0, 1), (1, 2), (2, 1)])
        self.check([cache(1, 1, 0), warm(6)], made, [1, 0, 0])
        self.assertEqual(last(cache(1, 1, 0), warm(6), made, states(1)), [0, 1, 1, 6])

    def test_what_was_touched_elsewhere_is_not_the_nodes_own_time(self):
        # Node 2 touches 5 first by one way, node 1 by the other.
        made = graph_of([[], [5], [5]], [(0, 1), (0, 2), (1, 2), (2, 2)])
        self.check([cache(1, 1, 0)], made, [1, 1, 1])

    def test_the_rules_differ(self):
        made = graph_of([[1], [2], [1], [3]], [(0, 1), (1, 2), (2, 3), (3, 0)])
        self.check([cache(1, 2, 0)], made, [1, 0, 1, 0])
        self.check([cache(1, 2, 1)], made, [0, 0, 1, 0])

    def test_a_set_with_no_room(self):
        made = graph_of([[6], [5]], [(0, 1), (1, 0)])
        self.check([cache(1, 1, 0), lock(5)], made, [0, 1])

    def test_sets(self):
        made = graph_of([[0], [1], [2], [3]], [(0, 1), (1, 2), (2, 3), (3, 0)])
        self.check([cache(4, 1, 0)], made, [1, 1, 1, 1])
        self.check([cache(2, 1, 0)], made, [0, 0, 0, 0])
        self.check([cache(2, 2, 1)], made, [1, 1, 1, 1])

    def test_no_nodes_number(self):
        for number in (-HUGE, -1, 2, 12, HUGE):
            self.assertEqual(last(graph_of([[5], [6]], []), first(number)), [-3])

    def test_no_nodes_number_where_there_are_too_many(self):
        for number in (-1, 11, HUGE):
            self.assertEqual(last(*fan_out(1), first(number)), [-3])


class TooManyTest(unittest.TestCase):
    def test_too_many_moments(self):
        for node in (0, 1, 8, 10):
            self.assertEqual(last(*fan_out(1), first(node)), [2])
        for node in range(12):
            self.assertEqual(last(*loop_of_lines(12), first(node)), [2])

    def test_too_many_moments_for_nodes_of_each_sort(self):
        # Behind the loop a node without lines, one that never misses, and one that isn't come to.
        lines = [[0, 2, 4], [6, 8, 10], [12, 14, 16], [18, 20, 22], [], [31], [24]]
        made = graph_of(lines, [(0, 1), (1, 2), (2, 3), (3, 0), (3, 4), (4, 5)])
        told = run(cache(2, 4, 0), lock(31), made, *[first(node) for node in range(7)])
        self.assertEqual(told[3:], [[2]] * 7)

    def test_four_hundred(self):
        for node in range(10):
            self.assertEqual(last(*fan_out(0), first(node)), [1])

    def test_too_many_only_if_it_is_told(self):
        self.assertEqual(last(*by_passed(0), exact())[:2], [0, 201])
        self.assertEqual(last(*by_passed(0), first(1)), [1])
        self.assertEqual(last(*by_passed(1), exact())[:2], [0, 202])
        self.assertEqual(last(*by_passed(1), first(2)), [2])
        # Of any other node the way tells it all the same.
        for node in (0, 1, 3, 4, 11):
            self.assertEqual(last(*by_passed(1), first(node)), [1])


if __name__ == "__main__":
    unittest.main()
