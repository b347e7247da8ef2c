import unittest

from tests.helper import HUGE, cache, last, lock, row, run, warm, ways

BELADY = (0, 1, 2, 3, 0, 1, 4, 0, 1, 2, 3, 4)


class RowTest(unittest.TestCase):
    def test_both_rules(self):
        lines = (1, 2, 1, 3, 1, 2)
        self.assertEqual(last(cache(1, 2, 0), row(*lines)), [0, 4, 1, 1, 0, 1, 0, 1, 2, 2, 1])
        self.assertEqual(last(cache(1, 2, 1), row(*lines)), [0, 5, 1, 1, 0, 1, 1, 1, 2, 2, 1])

    def test_a_hit_in_the_middle(self):
        self.assertEqual(last(cache(1, 4, 0), row(1, 2, 3, 2)), [0, 3, 1, 1, 1, 0, 3, 2, 3, 1])
        self.assertEqual(last(cache(1, 4, 1), row(1, 2, 3, 2)), [0, 3, 1, 1, 1, 0, 3, 3, 2, 1])

    def test_two_sets(self):
        lines = (0, 1, 2, 3, 0, 4, 5, 1)
        self.assertEqual(last(cache(2, 2, 0), row(*lines)),
                         [0, 7, 1, 1, 1, 1, 0, 1, 1, 1, 2, 4, 0, 2, 1, 5])
        self.assertEqual(last(cache(2, 2, 1), row(*lines)),
                         [0, 7, 1, 1, 1, 1, 0, 1, 1, 1, 2, 4, 2, 2, 1, 5])

    def test_four_sets(self):
        self.assertEqual(last(cache(4, 1, 0), row(0, 4, 1, 31, 0, 31)),
                         [0, 5, 1, 1, 1, 1, 1, 0, 1, 0, 1, 1, 0, 1, 31])
        self.assertEqual(last(cache(4, 4, 1), row(3, 7, 11, 15, 3, 19, 3)),
                         [0, 6, 1, 1, 1, 1, 0, 1, 1, 0, 0, 0, 4, 3, 19, 15, 11])

    def test_behind_the_warm_ones(self):
        told = run(warm(1, 2), row(1, 3, 2), row(1, 3, 2))
        self.assertEqual(told[1], [0, 2, 0, 1, 1, 2, 2, 3])
        self.assertEqual(told[2], told[1])

    def test_locked_lines(self):
        told = run(cache(1, 3, 0), lock(5), warm(1, 5, 2), row(5, 3, 5, 1, 2))
        self.assertEqual(told[2:], [[0, 2], [0, 3, 0, 1, 0, 1, 1, 2, 2, 1]])

    def test_empty(self):
        self.assertEqual(last(row()), [0, 0, 0])
        self.assertEqual(last(cache(4, 2, 0), warm(6, 1, 2), row()), [0, 0, 0, 1, 1, 2, 2, 6, 0])

    def test_four_hundred(self):
        told = last(cache(1, 2, 0), row(*[0, 31] * 200))
        self.assertEqual(told, [0, 2, 1, 1] + [0] * 398 + [2, 31, 0])

    def test_no_line(self):
        for number in (-HUGE, -1, 32, HUGE):
            self.assertEqual(last(row(number)), [-3])
            self.assertEqual(last(row(1, 2, number)), [-3])
            self.assertEqual(run(warm(1), row(2, number), row())[1:], [[-3], [0, 0, 1, 1]])


class WaysTest(unittest.TestCase):
    def test_both_rules(self):
        self.assertEqual(last(cache(1, 2, 0), ways(*BELADY)), [0, 12, 12, 10, 8])
        self.assertEqual(last(cache(1, 2, 1), ways(*BELADY)), [0, 12, 12, 9, 10])

    def test_the_sets_that_are_held(self):
        lines = (0, 2, 4, 0, 2, 4, 1, 3, 1)
        self.assertEqual(last(cache(1, 1, 0), ways(*lines)), [0, 9, 8, 5, 5])
        self.assertEqual(last(cache(2, 3, 1), ways(*lines)), [0, 9, 8, 5, 5])
        self.assertEqual(last(cache(4, 4, 0), ways(*lines)), [0, 7, 5, 5, 5])

    def test_neither_warm_nor_locked_lines_count(self):
        told = run(cache(1, 2, 0), lock(0), warm(1, 2), ways(*BELADY), row())
        self.assertEqual(told[3:], [[0, 12, 12, 10, 8], [0, 0, 1, 2]])

    def test_empty(self):
        self.assertEqual(last(warm(1), ways()), [0, 0, 0, 0, 0])

    def test_no_line(self):
        for number in (-HUGE, -1, 32, HUGE):
            self.assertEqual(last(ways(number)), [-3])
            self.assertEqual(last(ways(1, number, 2)), [-3])


if __name__ == "__main__":
    unittest.main()
