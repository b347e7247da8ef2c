import unittest

from surelines.caches import answers
from tests.helper import (bounds, cache, classes, exact, fan_out, first, graph, graph_of, lock, loop_of_lines, most,
                          row, run, show, size, states, unlock, warm, ways)

EXAMPLE = [3, 1, 5, 2, 5, 6, 1, 5, 0, 1, 1, 1, 1, 2]
BELADY = (0, 1, 2, 3, 0, 1, 4, 0, 1, 2, 3, 4)


class ExampleTest(unittest.TestCase):
    def test_the_documents_example(self):
        calls = [cache(1, 2, 0), graph(*EXAMPLE), classes(), bounds(1), bounds(2), exact(), states(1), show(1),
                 first(0), first(1), row(5, 6, 7, 5), ways(*BELADY), lock(6), classes()]
        told = [[0], [0, 3, 3], [0, 4, 2, 3, 3], [0, 0, 2, 5, 0, 6, 0], [0, 0, 2, 5, 0, 6, 0], [0, 7, 2, 3, 1],
                [0, 3, 1, 5, 2, 6, 5, 2, 5, 6], [0, 2, 0, 6, 1, 6, 2, 0, 6, 1, 7], [1], [0],
                [0, 4, 1, 1, 1, 1, 2, 5, 7], [0, 12, 12, 10, 8], [0, 1], [0, 3, 2, 1, 1]]
        self.assertEqual(run(*calls), told)
        # The other rule stands in the same example; a new cache has no line locked.
        calls += [cache(1, 2, 1), ways(*BELADY)]
        self.assertEqual(run(*calls), told + [[0], [0, 12, 12, 9, 10]])

    def test_bounds_behind_the_example(self):
        # With 6 locked the line 5 is sure, as the document's classes tell.
        told = run(cache(1, 2, 0), graph(*EXAMPLE), lock(6), bounds(1), bounds(2))
        self.assertEqual(told[3:], [[0, 1, 5, 0, 1, 5, 0]] * 2)

    def test_the_other_rule(self):
        self.assertEqual(run(cache(1, 2, 1), ways(*BELADY)), [[0], [0, 12, 12, 9, 10]])


class InterfaceTest(unittest.TestCase):
    def test_calls_and_answers_as_they_are_laid_out(self):
        calls = [0, 2, 1, 1] + [1, 5] + [2, 5] + [2, 5] + [3, 2, 7, 8] + [4, 4, 1, 1, 7, 0]
        told = [1, 0] + [2, 0, 1] + [2, 0, 0] + [1, -3] + [2, 0, 2] + [1, -12]
        self.assertEqual(answers(calls), told)
        calls += [5, 1, 9] + [6, 2, 7, 7] + [7, 0] + [7, 5]
        told += [7, 0, 1, 1, 1, 8, 1, 9] + [5, 0, 1, 1, 1, 1] + [11, 0, 2, 7, 0, 8, 0, 2, 7, 0, 8, 0] + [1, -3]
        self.assertEqual(answers(calls), told)

    def test_the_calls_that_go_through_the_graph_as_they_are_laid_out(self):
        calls = [4, 5, 1, 1, 7, 0, 0] + [8] + [9] + [10, 0] + [11, 0] + [12, 0] + [13, 3] + [14] + [14]
        told = [3, 0, 1, 1] + [3, 0, 2, 3] + [3, 0, 2, 3] + [5, 0, 2, 0, 1, 7] + [9, 0, 2, 0, 8, 0, 8, 1, 0, 8]
        told += [1, 1] + [2, 0, 1] + [8, 0, 1, 2, 0, 0, 0, 1, 1] * 2
        self.assertEqual(answers(calls), told)

    def test_empty_lists(self):
        self.assertEqual(answers([3, 0, 4, 0, 5, 0, 6, 0]), [2, 0, 0, 1, -12, 3, 0, 0, 0, 5, 0, 0, 0, 0, 0])

    def test_forty_calls(self):
        self.assertEqual(run(*[lock(1), unlock(1)] * 20), [[0, 1], [0, 0]] * 20)

    def all_calls(self):
        calls = []
        for call in (cache(2, 2, 1), lock(3), warm(1, 2, 4), graph(*EXAMPLE), row(5, 6), ways(1, 2),
                     bounds(1), classes(), exact(), states(1), show(1), first(1), most(40), size(), unlock(3),
                     warm(*range(17)), graph(1), row(32), bounds(9), states(9), show(9), first(9), most(0)):
            calls += call
        return calls

    def test_what_is_handed_in_stays(self):
        calls = self.all_calls()
        before = list(calls)
        told = answers(calls)
        self.assertEqual(calls, before)
        self.assertEqual(answers(calls), told)
        self.assertEqual(calls, before)

    def test_the_same_again_with_other_lists_between(self):
        calls = self.all_calls()
        told = answers(calls)
        for others in (loop_of_lines(12), fan_out(0), [cache(4, 1, 1), lock(1), warm(2), graph(1, 1, 5, 0, 0)]):
            run(*others, classes(), exact(), states(0), show(0), first(0), most(40), size())
            self.assertEqual(answers(calls), told)

    def test_each_call_asks_what_is_held_then(self):
        asked = [classes(), exact(), states(0), show(0), first(0), most(9)]
        made = graph_of([[1, 2]], [(0, 0)])
        changes = [cache(1, 1, 0), made, lock(1), warm(2), unlock(1), cache(2, 1, 1), graph_of([[3]], [])]
        calls = []
        for place, change in enumerate(changes):
            calls.append(change)
            alone = run(*changes[:place + 1], *asked)[place + 1:]
            self.assertEqual(run(*calls, *asked)[-6:], alone)
            calls += asked if place < 4 else []

    def test_nothing_is_kept(self):
        fresh = answers(row(1, 2))
        answers(cache(4, 1, 1) + lock(1) + warm(2) + graph(2, 1, 5, 0, 0, 1))
        self.assertEqual(answers(row(1, 2)), fresh)
        self.assertEqual(answers(unlock(1) + bounds(1)), [1, -3, 1, -3])

    def test_what_is_given_back_is_ones_own(self):
        first = answers(warm(1, 2) + row())
        expected = list(first)
        first.append(7)
        self.assertEqual(answers(warm(1, 2) + row()), expected)

    def test_whole_numbers_alone(self):
        made = graph_of([[1, 2, 3], [4]], [(0, 1), (1, 0)])
        told = answers(cache(1, 2, 0) + lock(1) + warm(1, 2) + made + row(2, 3) + ways(1) + bounds(1) + bounds(2)
                       + classes() + exact() + states(1) + show(0) + show(1) + first(0) + first(1) + most(7) + size())
        self.assertIs(type(told), list)
        self.assertEqual({type(number) for number in told}, {int})


class GreatestTest(unittest.TestCase):
    """Lists of 40 calls on the greatest graphs: that they are answered, and soon enough to be waited for."""

    def test_moments_and_edges_as_many_as_can_be(self):
        # Node 0 leads to all: before each there are 15 states, and before node 0 the empty one too.
        lines = [[1, 2, 3]] + [[node, node + 10, node + 20] for node in range(1, 12)]
        edges = [(0, node) for node in range(12)] + [(0, node) for node in range(12)]
        before = [cache(1, 4, 0), graph_of(lines, edges)]
        for call in (classes(), exact(), states(11), show(11), first(0), most(40)):
            told = run(*before, *[call] * 38)[2:]
            self.assertEqual(told, [told[0]] * 38)
            self.assertGreaterEqual(told[0][0], 0)
        self.assertEqual(run(*before, exact())[2][:2], [0, 12 * 15 + 1])

    def test_four_hundred_moments(self):
        for call in (classes(), exact(), states(7), show(7), first(7), most(40)):
            told = run(*fan_out(0), *[call] * 38)[2:]
            self.assertEqual(told, [told[0]] * 38)

    def test_too_many(self):
        for call in (exact(), states(0), show(0), first(0), most(40)):
            self.assertEqual(run(*loop_of_lines(12), *[call] * 38)[2:], [[2]] * 38)

    def test_the_longest_list(self):
        lines = [node % 32 for node in range(400)]
        self.assertEqual(len(run(*[row(*lines), ways(*lines)] * 20)), 40)


if __name__ == "__main__":
    unittest.main()
