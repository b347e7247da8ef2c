import unittest

from tests.helper import HUGE, cache, fan_out, graph_of, last, lock, loop_of_lines, most, run, unlock, warm

ROUND_ABOUT = graph_of([[1], [2], [1], [3]], [(0, 1), (1, 2), (2, 3), (3, 0)])


class MostTest(unittest.TestCase):
    def check(self, before, made, expected):
        """The answers by pairs of how many nodes and how many misses."""
        for nodes, misses in expected:
            self.assertEqual(last(*before, made, most(nodes)), [0, misses], nodes)

    def test_at_the_beginning(self):
        self.check([], graph_of([[]], []), [(1, 0), (2, 0), (40, 0)])

    def test_one_node(self):
        self.check([], graph_of([[5]], []), [(1, 1), (2, 1), (40, 1)])
        self.check([], graph_of([[5], [6]], [(0, 1)]), [(1, 1), (2, 2)])

    def test_ways_that_end_before(self):
        made = graph_of([[1], [2], [3]], [(0, 1), (1, 2)])
        self.check([], made, [(1, 1), (2, 2), (3, 3), (4, 3), (39, 3), (40, 3)])

    def test_nodes_without_lines_are_nodes_of_the_way(self):
        made = graph_of([[], [5], [], [6]], [(0, 1), (1, 2), (2, 3)])
        self.check([], made, [(1, 0), (2, 1), (3, 1), (4, 2), (5, 2)])

    def test_round_and_round(self):
        self.check([cache(1, 2, 0)], graph_of([[1, 2, 3]], [(0, 0)]), [(1, 1), (2, 2), (3, 3), (4, 4), (40, 40)])
        self.check([cache(1, 3, 0)], graph_of([[1, 2, 3]], [(0, 0)]), [(1, 1), (2, 2), (3, 3), (4, 3), (40, 3)])
        self.check([cache(1, 1, 0)], graph_of([[5], [6]], [(0, 1), (1, 0)]), [(7, 7), (40, 40)])
        self.check([cache(1, 2, 0)], graph_of([[5], [6]], [(0, 1), (1, 0)]), [(7, 2), (40, 2)])

    def test_an_edge_told_twice(self):
        self.check([], graph_of([[5], [6], [7]], [(0, 1), (0, 1), (1, 2), (1, 2)]), [(1, 1), (2, 2), (3, 3)])

    def test_the_rules_differ(self):
        # By rule 0 line 1 stays, and 2 and 3 miss in turn; by rule 1 three of four miss.
        self.check([cache(1, 2, 0)], ROUND_ABOUT, [(1, 1), (4, 3), (5, 3), (6, 4), (8, 5), (40, 21)])
        self.check([cache(1, 2, 1)], ROUND_ABOUT, [(1, 1), (4, 3), (5, 4), (6, 5), (8, 6), (40, 30)])

    def test_the_longer_way_has_more(self):
        # The edge told first leads to the short way.
        made = graph_of([[1], [2], [1], [3], [4]], [(0, 1), (0, 2), (2, 3), (3, 4)])
        self.check([], made, [(1, 1), (2, 2), (3, 2), (4, 3), (5, 3)])

    def test_a_hit_now_for_misses_later(self):
        # A miss by 6 ends at node 1; by the hit 5 there's more behind, but not with few nodes.
        made = graph_of([[], [6], [5], [7], [8]], [(0, 1), (0, 2), (2, 3), (3, 4)])
        self.check([warm(5)], made, [(1, 0), (2, 1), (3, 1), (4, 2), (40, 2)])

    def test_which_line_is_touched_matters_later(self):
        # If 1 is touched at node 0, 1 and 2 hit later; if 9, they miss too.
        made = graph_of([[1, 9], [2], [1]], [(0, 1), (1, 2)])
        self.check([cache(1, 3, 0), warm(2)], made, [(1, 1), (2, 1), (3, 2)])
        self.check([cache(1, 1, 0), warm(2)], made, [(1, 1), (2, 2), (3, 3)])

    def test_locked_lines(self):
        made = graph_of([[5], [6], [7]], [(0, 1), (1, 2), (2, 0)])
        self.check([cache(1, 2, 0), lock(5)], made, [(1, 0), (2, 1), (3, 2), (40, 26)])
        self.check([cache(1, 2, 0), lock(5), lock(6)], made, [(1, 0), (2, 0), (3, 1), (40, 13)])
        self.check([cache(1, 2, 0), lock(5), unlock(5)], made, [(1, 1), (3, 3), (40, 40)])
        self.check([cache(1, 1, 1), lock(9)], graph_of([[5]], [(0, 0)]), [(1, 1), (2, 2), (40, 40)])

    def test_warm_lines(self):
        made = graph_of([[5], [6], [7]], [(0, 1), (1, 2)])
        self.check([cache(1, 3, 0), warm(5, 6)], made, [(1, 0), (2, 0), (3, 1)])
        self.check([cache(1, 2, 0), warm(6, 5)], made, [(1, 0), (2, 0), (3, 1)])
        # By rule 1 too: nothing goes before node 2.
        self.check([cache(1, 2, 1), warm(5, 6)], made, [(1, 0), (2, 0), (3, 1)])
        self.check([cache(1, 1, 1), warm(5, 6)], made, [(1, 1), (2, 2), (3, 3)])

    def test_sets(self):
        made = graph_of([[0], [1], [2], [3]], [(0, 1), (1, 2), (2, 3), (3, 0)])
        self.check([cache(4, 1, 0)], made, [(4, 4), (5, 4), (40, 4)])
        self.check([cache(2, 1, 0)], made, [(4, 4), (5, 5), (40, 40)])

    def test_what_is_not_come_to_does_not_count(self):
        self.check([], graph_of([[5], [6], [7]], [(1, 2), (2, 1), (1, 0)]), [(1, 1), (40, 1)])

    def test_four_hundred_moments(self):
        self.check([fan_out(0)[0]], fan_out(0)[1], [(1, 1), (3, 3), (8, 8), (9, 8), (40, 8)])


class RefusedTest(unittest.TestCase):
    def test_how_many_nodes(self):
        for number in (-HUGE, -1, 0, 41, HUGE):
            self.assertEqual(last(most(number)), [-7])
            self.assertEqual(last(graph_of([[5]], [(0, 0)]), most(number)), [-7])

    def test_ahead_of_too_many(self):
        for number in (-HUGE, 0, 41, HUGE):
            self.assertEqual(last(*fan_out(1), most(number)), [-7])
            self.assertEqual(last(*loop_of_lines(12), most(number)), [-7])

    def test_too_many(self):
        for number in (1, 2, 40):
            self.assertEqual(last(*fan_out(1), most(number)), [2])
            self.assertEqual(last(*loop_of_lines(12), most(number)), [2])

    def test_what_is_held_stays(self):
        told = run(graph_of([[5]], [(0, 0)]), most(0), most(1), most(41), most(40))
        self.assertEqual(told[1:], [[-7], [0, 1], [-7], [0, 1]])


if __name__ == "__main__":
    unittest.main()
