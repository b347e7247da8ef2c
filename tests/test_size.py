import unittest

from tests.helper import (HUGE, bounds, cache, classes, exact, first, graph, graph_of, last, lock, loop_of_lines,
                          most, row, run, show, size, states, unlock, warm, ways)


class SizeTest(unittest.TestCase):
    def test_at_the_beginning(self):
        self.assertEqual(run(size()), [[0, 1, 2, 0, 0, 0, 1, 0]])

    def check(self, *steps):
        """Steps are a call and the size behind it, one behind another on one object."""
        calls = []
        for call, expected in steps:
            calls += [call, size()]
        self.assertEqual(run(*calls)[1::2], [[0] + expected for call, expected in steps])

    def test_behind_each_call_that_changes_what_is_held(self):
        self.check((cache(2, 3, 1), [2, 3, 1, 0, 0, 1, 0]),
                   (lock(5), [2, 3, 1, 1, 0, 1, 0]),
                   (lock(6), [2, 3, 1, 2, 0, 1, 0]),
                   (warm(1, 2, 3, 4), [2, 3, 1, 2, 4, 1, 0]),
                   (unlock(5), [2, 3, 1, 1, 4, 1, 0]),
                   (graph(3, 1, 5, 0, 2, 6, 7, 0, 1, 1, 2, 2, 2, 0, 1), [2, 3, 1, 1, 4, 3, 4]),
                   (warm(9), [2, 3, 1, 1, 1, 3, 4]),
                   (graph(2, 0, 0), [2, 3, 1, 1, 1, 2, 0]),
                   (warm(), [2, 3, 1, 1, 0, 2, 0]),
                   (cache(4, 1, 0), [4, 1, 0, 0, 0, 2, 0]))

    def test_a_cache_has_no_locked_and_no_warm_lines_and_the_graph_stays(self):
        self.check((lock(1), [1, 2, 0, 1, 0, 1, 0]),
                   (warm(2, 3), [1, 2, 0, 1, 2, 1, 0]),
                   (graph(2, 0, 0, 1, 1), [1, 2, 0, 1, 2, 2, 1]),
                   (cache(1, 2, 0), [1, 2, 0, 0, 0, 2, 1]))

    def test_the_greatest(self):
        greatest = graph_of([[node, 12, 13] for node in range(12)], [(node % 12, 5) for node in range(24)])
        self.check((cache(4, 4, 1), [4, 4, 1, 0, 0, 1, 0]),
                   (warm(*range(16)), [4, 4, 1, 0, 16, 1, 0]),
                   (greatest, [4, 4, 1, 0, 16, 12, 24]))
        locks = [lock(line) for line in range(16)]
        self.assertEqual(last(cache(4, 4, 0), *locks, size()), [0, 4, 4, 0, 16, 0, 1, 0])

    def test_warm_lines_told_twice_count_twice(self):
        self.check((warm(5, 5, 5), [1, 2, 0, 0, 3, 1, 0]))

    def test_warm_lines_that_are_locked_stay_warm(self):
        self.check((warm(5, 6), [1, 2, 0, 0, 2, 1, 0]), (lock(5), [1, 2, 0, 1, 2, 1, 0]))

    def test_behind_a_refusal(self):
        held = [2, 1, 1, 1, 2, 2, 1]
        refused = [cache(3, 1, 0), cache(1, 5, 0), cache(1, 1, 2), lock(5), lock(7), lock(32), lock(-HUGE), unlock(4),
                   warm(32), warm(*range(17)), graph(), graph(13), graph(1, 0, 0), row(-1), ways(HUGE), bounds(2),
                   states(-1), show(2), first(HUGE), most(0), most(41)]
        before = [cache(2, 1, 1), lock(5), warm(6, 8), graph(2, 1, 6, 0, 0, 1)]
        for call in refused:
            told = run(*before, call, size())
            self.assertLess(told[4][0], 0, call)
            self.assertEqual(len(told[4]), 1, call)
            self.assertEqual(told[5], [0] + held, call)

    def test_behind_what_only_asks(self):
        asked = [row(1, 2), ways(3), bounds(0), classes(), exact(), states(0), show(0), first(0), most(40), size()]
        before = [cache(2, 1, 1), lock(5), warm(6, 8), graph(2, 2, 6, 7, 0, 0, 1)]
        for call in asked:
            self.assertEqual(last(*before, call, size()), [0, 2, 1, 1, 1, 2, 2, 1], call)

    def test_behind_too_many(self):
        for call in (exact(), states(0), show(0), first(0), most(3)):
            told = run(*loop_of_lines(6), call, size())
            self.assertEqual(told[2:], [[2], [0, 1, 4, 0, 0, 0, 6, 6]])


if __name__ == "__main__":
    unittest.main()
