import unittest

from tests.helper import HUGE, cache, last, lock, row, run, warm


class WarmTest(unittest.TestCase):
    def test_how_many_misses(self):
        self.assertEqual(last(warm(1, 2, 1, 3, 2)), [0, 4])
        self.assertEqual(last(cache(1, 2, 1), warm(1, 2, 1, 3, 2)), [0, 3])
        self.assertEqual(last(cache(2, 2, 0), warm(1, 2, 1, 3, 2)), [0, 3])
        self.assertEqual(last(cache(1, 1, 0), warm(1, 1, 2, 2, 1)), [0, 3])

    def test_locked_lines_are_hits(self):
        self.assertEqual(last(lock(1), warm(1, 2, 1, 3, 2)), [0, 3])

    def test_they_begin_in_an_empty_cache(self):
        self.assertEqual(run(warm(1, 2), warm(1, 2), row()), [[0, 2], [0, 2], [0, 0, 2, 2, 1]])

    def test_they_are_the_warm_lines_from_now_on(self):
        told = run(warm(1, 2), row(1), warm(3), row(1))
        self.assertEqual(told[1:], [[0, 0, 0, 2, 1, 2], [0, 1], [0, 1, 1, 2, 1, 3]])

    def test_empty(self):
        self.assertEqual(run(warm(1), warm(), row()), [[0, 1], [0, 0], [0, 0, 0]])

    def test_first_and_last_line(self):
        self.assertEqual(run(warm(0, 31), row()), [[0, 2], [0, 0, 2, 31, 0]])

    def test_no_line(self):
        for number in (-HUGE, -1, 32, HUGE):
            self.assertEqual(last(warm(number)), [-3])
            self.assertEqual(last(warm(1, number, 2)), [-3])
            self.assertEqual(last(warm(1, 2, number)), [-3])

    def test_sixteen_and_seventeen(self):
        self.assertEqual(last(warm(*range(16))), [0, 16])
        self.assertEqual(last(warm(*[3] * 16)), [0, 1])
        self.assertEqual(last(warm(*range(17))), [-8])
        self.assertEqual(last(warm(*[3] * 17)), [-8])
        self.assertEqual(last(warm(*[3] * 400)), [-8])

    def test_no_line_comes_ahead_of_too_many(self):
        self.assertEqual(last(warm(*range(16), 32)), [-3])
        self.assertEqual(last(warm(-1, *range(16))), [-3])
        self.assertEqual(last(warm(*[3] * 399, HUGE)), [-3])

    def test_refused_ones_change_nothing(self):
        told = run(warm(1, 2), warm(3, 32), row(), warm(*range(17)), row())
        self.assertEqual(told[1:], [[-3], [0, 0, 2, 2, 1], [-8], [0, 0, 2, 2, 1]])


if __name__ == "__main__":
    unittest.main()
