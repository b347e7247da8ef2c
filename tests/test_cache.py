import unittest

from tests.helper import HUGE, bounds, cache, graph, last, lock, row, run, unlock, warm


class CacheTest(unittest.TestCase):
    def test_all_caches_there_are(self):
        for sets in (1, 2, 4):
            for ways in (1, 2, 3, 4):
                for rule in (0, 1):
                    self.assertEqual(run(cache(sets, ways, rule)), [[0]])

    def test_wrong_sets(self):
        for sets in (-HUGE, -4, -1, 0, 3, 5, 8, HUGE):
            self.assertEqual(run(cache(sets, 2, 0)), [[-7]])

    def test_wrong_ways(self):
        for ways in (-HUGE, -1, 0, 5, HUGE):
            self.assertEqual(run(cache(1, ways, 0)), [[-7]])

    def test_wrong_rule(self):
        for rule in (-HUGE, -1, 2, HUGE):
            self.assertEqual(run(cache(1, 2, rule)), [[-7]])

    def test_all_wrong(self):
        self.assertEqual(run(cache(0, 0, 2)), [[-7]])

    def test_at_the_beginning(self):
        self.assertEqual(last(row()), [0, 0, 0])
        # One set, two ways, and the rule 0, by which the touched 1 outlives 2.
        self.assertEqual(last(row(1, 2, 1, 3)), [0, 3, 1, 1, 0, 1, 2, 3, 1])
        self.assertEqual(last(unlock(0)), [-3])
        self.assertEqual(run(bounds(0), bounds(1)), [[0, 0, 0], [-3]])

    def test_it_is_the_cache_from_now_on(self):
        self.assertEqual(last(cache(2, 1, 1), row(0, 1, 2)), [0, 3, 1, 1, 1, 1, 2, 1, 1])
        self.assertEqual(last(cache(1, 3, 1), row(1, 2, 1, 3, 4)), [0, 4, 1, 1, 0, 1, 1, 3, 4, 3, 2])

    def test_no_line_is_locked_then(self):
        told = run(lock(3), lock(4), cache(1, 2, 0), unlock(3), lock(4), row(3))
        self.assertEqual(told, [[0, 1], [0, 2], [0], [-3], [0, 1], [0, 1, 1, 1, 3]])

    def test_no_line_is_warm_then(self):
        self.assertEqual(last(warm(3, 4), cache(1, 2, 0), row()), [0, 0, 0])

    def test_the_graph_stays(self):
        told = run(graph(2, 1, 9, 0, 0, 1), cache(4, 1, 1), bounds(1), bounds(2))
        self.assertEqual(told[2:], [[0, 1, 9, 0, 1, 9, 0], [-3]])

    def test_a_refused_one_changes_nothing(self):
        for refused in (cache(3, 1, 1), cache(2, 5, 1), cache(2, 1, 2), cache(2, 1, -1)):
            told = run(cache(1, 3, 0), lock(7), warm(1, 2), refused, row(7, 1, 3), unlock(7))
            self.assertEqual(told[3:], [[-7], [0, 1, 0, 0, 1, 2, 3, 1], [0, 0]])


if __name__ == "__main__":
    unittest.main()
