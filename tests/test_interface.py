import unittest

from surelines.caches import answers
from tests.helper import bounds, cache, graph, graph_of, lock, row, run, unlock, warm, ways

EXAMPLE = [3, 1, 5, 2, 5, 6, 1, 5, 0, 1, 1, 1, 1, 2]
BELADY = (0, 1, 2, 3, 0, 1, 4, 0, 1, 2, 3, 4)


class ExampleTest(unittest.TestCase):
    def test_the_documents_example(self):
        told = run(cache(1, 2, 0), graph(*EXAMPLE), bounds(1), bounds(2), row(5, 6, 7, 5), ways(*BELADY),
                   lock(6), bounds(1), bounds(2))
        self.assertEqual(told[:3], [[0], [0, 3, 3], [0, 0, 2, 5, 0, 6, 0]])
        self.assertEqual(told[3], told[2])
        self.assertEqual(told[4:7], [[0, 4, 1, 1, 1, 1, 2, 5, 7], [0, 12, 12, 10, 8], [0, 1]])
        # The line 5 is sure then, as the document's classes tell.
        self.assertEqual(told[7:], [[0, 1, 5, 0, 1, 5, 0]] * 2)

    def test_the_other_rule(self):
        self.assertEqual(run(cache(1, 2, 1), ways(*BELADY)), [[0], [0, 12, 12, 9, 10]])


class InterfaceTest(unittest.TestCase):
    def test_calls_and_answers_as_they_are_laid_out(self):
        calls = [0, 2, 1, 1] + [1, 5] + [2, 5] + [2, 5] + [3, 2, 7, 8] + [4, 4, 1, 1, 7, 0]
        told = [1, 0] + [2, 0, 1] + [2, 0, 0] + [1, -3] + [2, 0, 2] + [1, -12]
        self.assertEqual(answers(calls), told)
        calls += [5, 1, 9] + [6, 2, 7, 7] + [7, 0] + [7, 5]
        told += [7, 0, 1, 1, 1, 8, 1, 9] + [5, 0, 1, 1, 1, 1] + [11, 0, 2, 7, 0, 8, 0, 2, 7, 0, 8, 0] + [1, -3]
        self.assertEqual(answers(calls), told)

    def test_empty_lists(self):
        self.assertEqual(answers([3, 0, 4, 0, 5, 0, 6, 0]), [2, 0, 0, 1, -12, 3, 0, 0, 0, 5, 0, 0, 0, 0, 0])

    def test_forty_calls(self):
        self.assertEqual(run(*[lock(1), unlock(1)] * 20), [[0, 1], [0, 0]] * 20)

    def test_what_is_handed_in_stays(self):
        calls = []
        for call in (cache(2, 2, 1), lock(3), warm(1, 2, 4), graph(*EXAMPLE), row(5, 6), ways(1, 2),
                     bounds(1), unlock(3), warm(*range(17)), graph(1), row(32), bounds(9)):
            calls += call
        before = list(calls)
        told = answers(calls)
        self.assertEqual(calls, before)
        self.assertEqual(answers(calls), told)
        self.assertEqual(calls, before)

    def test_nothing_is_kept(self):
        fresh = answers(row(1, 2))
        answers(cache(4, 1, 1) + lock(1) + warm(2) + graph(2, 1, 5, 0, 0, 1))
        self.assertEqual(answers(row(1, 2)), fresh)
        self.assertEqual(answers(unlock(1) + bounds(1)), [1, -3, 1, -3])

    def test_what_is_given_back_is_ones_own(self):
        first = answers(warm(1, 2) + row())
        expected = list(first)
        first.append(7)
        self.assertEqual(answers(warm(1, 2) + row()), expected)

    def test_whole_numbers_alone(self):
        made = graph_of([[1, 2, 3], [4]], [(0, 1), (1, 0)])
        told = answers(cache(1, 2, 0) + lock(1) + warm(1, 2) + made + row(2, 3) + ways(1) + bounds(1) + bounds(2))
        self.assertIs(type(told), list)
        self.assertEqual({type(number) for number in told}, {int})


if __name__ == "__main__":
    unittest.main()
