import unittest

from tests.helper import HUGE, cache, last, lock, row, run, unlock, warm


class LockTest(unittest.TestCase):
    def test_how_many_are_locked_then(self):
        told = run(cache(1, 4, 0), lock(0), lock(31), lock(5), unlock(31), lock(6), lock(31))
        self.assertEqual(told[1:], [[0, 1], [0, 2], [0, 3], [0, 2], [0, 3], [0, 4]])

    def test_no_line(self):
        for number in (-HUGE, -1, 32, HUGE):
            self.assertEqual(run(lock(number)), [[-3]])

    def test_locked_already(self):
        self.assertEqual(run(lock(5), lock(5), lock(6)), [[0, 1], [-3], [0, 2]])

    def test_no_room(self):
        self.assertEqual(run(lock(5), lock(6), lock(7)), [[0, 1], [0, 2], [-9]])

    def test_room_is_the_own_sets(self):
        told = run(cache(2, 1, 0), lock(4), lock(6), lock(7), lock(9))
        self.assertEqual(told[1:], [[0, 1], [-9], [0, 2], [-9]])
        told = run(cache(4, 1, 1), lock(0), lock(1), lock(2), lock(3), lock(4), lock(7))
        self.assertEqual(told[1:], [[0, 1], [0, 2], [0, 3], [0, 4], [-9], [-9]])

    def test_as_many_as_there_can_be(self):
        told = run(cache(4, 4, 0), *[lock(line) for line in range(17)])
        self.assertEqual(told[1:17], [[0, count] for count in range(1, 17)])
        self.assertEqual(told[17], [-9])

    def test_no_line_comes_ahead_of_no_room(self):
        full = [cache(1, 1, 0), lock(5)]
        for number in (-1, 32, 5, HUGE):
            self.assertEqual(last(*full, lock(number)), [-3])
        self.assertEqual(last(*full, lock(6)), [-9])

    def test_refused_ones_change_nothing(self):
        told = run(cache(1, 1, 0), lock(5), lock(5), lock(6), lock(32), unlock(6), row(5, 6), unlock(5))
        self.assertEqual(told[2:], [[-3], [-9], [-3], [-3], [0, 1, 0, 1, 0], [0, 0]])


class UnlockTest(unittest.TestCase):
    def test_not_locked(self):
        for number in (-HUGE, -1, 0, 6, 31, 32, HUGE):
            self.assertEqual(last(lock(5), unlock(number)), [-3])

    def test_it_is_not_any_more(self):
        told = run(lock(5), unlock(5), unlock(5), row(5), lock(5))
        self.assertEqual(told, [[0, 1], [0, 0], [-3], [0, 1, 1, 1, 5], [0, 1]])

    def test_it_gives_its_room_back(self):
        told = run(lock(5), lock(6), lock(7), unlock(5), lock(7), row(5, 7, 6))
        self.assertEqual(told[2:], [[-9], [0, 1], [0, 2], [0, 1, 1, 0, 0, 0]])


class LockedStateTest(unittest.TestCase):
    def test_the_warm_lines_are_touched_with_the_locked_ones_of_now(self):
        told = run(cache(1, 3, 0), warm(1, 2, 3), row(), lock(2), row(), lock(9), row(), unlock(2), row())
        self.assertEqual(told[2], [0, 0, 3, 3, 2, 1])
        self.assertEqual(told[4], [0, 0, 2, 3, 1])
        self.assertEqual(told[6], [0, 0, 1, 3])
        self.assertEqual(told[8], [0, 0, 2, 3, 2])

    def test_warm_lines_come_back(self):
        told = run(warm(1, 2), lock(8), row(), unlock(8), row())
        self.assertEqual([told[2], told[4]], [[0, 0, 1, 2], [0, 0, 2, 2, 1]])

    def test_a_set_with_no_room(self):
        told = run(cache(2, 1, 0), lock(4), warm(6, 6, 7), row(6, 4, 6, 7))
        self.assertEqual(told[2:], [[0, 3], [0, 2, 1, 0, 1, 0, 0, 1, 7]])
        told = run(cache(1, 2, 1), lock(4), lock(5), row(6, 6, 5, 4))
        self.assertEqual(told[3], [0, 2, 1, 1, 0, 0, 0])


if __name__ == "__main__":
    unittest.main()
