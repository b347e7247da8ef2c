"""Holds the calls that go through all states against a second, plainer telling of the words.

There each moment is kept with its whole way, and what is asked of ways is asked of the ways themselves, or of
all that can stand at the same length of a way.
"""

import random
import unittest

from tests.helper import classes, exact, first, most, run, show, states
from tests.test_against_words import Case


def frozen(state):
    return tuple(tuple(own) for own in state)


def behind(case, state, x):
    """The state behind and whether it's a miss."""
    changed = [list(own) for own in state]
    miss = 0 if x is None else case.words.touch(changed, x)
    return frozen(changed), miss


def choices(case, node):
    return case.lines[node] or [None]


def moments(case, watched):
    """A dict from moments to their ways, in order, or None if there are too many."""
    start = (0, frozen(case.first_state()), False)
    ways = {start: []}
    queue = [start]
    while queue:
        node, state, stood = queue.pop(0)
        for x in choices(case, node):
            for source, target in case.edges:
                if source == node:
                    reached = (target, behind(case, state, x)[0], stood or node == watched)
                    if reached not in ways:
                        ways[reached] = ways[node, state, stood] + [(node, x)]
                        queue.append(reached)
        if len(ways) > 400:
            return None
    return ways


def verdict(case, ways, node):
    if not case.lines[node]:
        return 0
    seen = {behind(case, state, x)[1] for at, state, stood in ways if at == node for x in case.lines[node]}
    return {(): 4, (0,): 1, (1,): 2, (0, 1): 3}[tuple(sorted(seen))]


def class_told(case, known, node):
    """By bounds; known is for each line its greatest and its least age, or None."""
    if not case.lines[node]:
        return 0
    if known is None:
        return 4
    words = case.words
    sure = [x in words.locked or known[0][x] < words.room[x] for x in case.lines[node]]
    possible = [x in words.locked or known[1][x] < words.room[x] for x in case.lines[node]]
    return 1 if all(sure) else 3 if any(possible) else 2


def way_numbers(way):
    return [len(way)] + [number for node, x in way for number in (node, 0 if x is None else x + 1)]


def shown(case, ways, node):
    if verdict(case, ways, node) != 3:
        return [1]
    told = [0]
    for wanted in (0, 1):
        found = [way + [(node, x)] for (at, state, stood), way in ways.items() if at == node
                 for x in case.lines[node] if behind(case, state, x)[1] == wanted]
        told += way_numbers(found[0])
    return told


def states_told(ways, node):
    own = [state for at, state, stood in ways if at == node]
    return [0, len(own)] + [number for state in own for held in state for number in (len(held),) + held]


def once_alone(case, ways, node):
    return not any(stood and behind(case, state, x)[1]
                   for at, state, stood in ways if at == node for x in case.lines[node])


def most_by_length(case, longest):
    """For each length of a way up to the longest, the most misses on a way that isn't longer."""
    front = {(0, frozen(case.first_state())): 0}
    best = [0]
    for length in range(longest):
        further = {}
        ended = []
        for (node, state), misses in front.items():
            for x in choices(case, node):
                then, miss = behind(case, state, x)
                ended.append(misses + miss)
                for source, target in case.edges:
                    if source == node:
                        further[target, then] = max(misses + miss, further.get((target, then), 0))
        best.append(max(ended + best))
        front = further
    return best


class MomentsAgainstWordsTest(unittest.TestCase):
    SEEDS = 250

    def asked(self, case, calls):
        return run(*case.before(), *calls)[-len(calls):]

    def test_classes(self):
        for seed in range(self.SEEDS):
            case = Case(seed)
            known, made = case.words.rounds(case.lines, case.edges, case.first_state())
            expected = [0, made] + [class_told(case, each, node) for node, each in enumerate(known)]
            self.assertEqual(self.asked(case, [classes()]), [expected], seed)

    def test_exact_states_and_show(self):
        for seed in range(self.SEEDS):
            case = Case(seed)
            ways = moments(case, None)
            nodes = range(len(case.lines))
            expected = [[2]] * (1 + 2 * len(nodes))
            if ways is not None:
                expected = [[0, len(ways)] + [verdict(case, ways, node) for node in nodes]]
                expected += [states_told(ways, node) for node in nodes] + [shown(case, ways, node) for node in nodes]
            calls = [exact()] + [states(node) for node in nodes] + [show(node) for node in nodes]
            self.assertEqual(self.asked(case, calls), expected, seed)

    def test_first(self):
        for seed in range(self.SEEDS):
            case = Case(seed)
            expected = []
            for node in range(len(case.lines)):
                ways = moments(case, node)
                expected.append([2 if ways is None else 1 if once_alone(case, ways, node) else 0])
            self.assertEqual(self.asked(case, [first(node) for node in range(len(case.lines))]), expected, seed)

    def test_most(self):
        lengths = (1, 2, 3, 5, 8, 13, 39, 40)
        for seed in range(self.SEEDS):
            case = Case(seed)
            expected = [[2]] * len(lengths)
            if moments(case, None) is not None:
                best = most_by_length(case, 40)
                expected = [[0, best[length]] for length in lengths]
            self.assertEqual(self.asked(case, [most(length) for length in lengths]), expected, seed)

    def test_a_class_by_bounds_is_the_class_or_unknown(self):
        for seed in range(self.SEEDS):
            by_bounds, by_moments = self.asked(Case(seed), [classes(), exact()])
            if by_moments != [2]:
                for one, other in zip(by_bounds[2:], by_moments[2:]):
                    self.assertIn(one, (3, other), seed)

    def test_a_node_that_misses_once_alone_does_so_on_ways_taken_by_chance(self):
        for seed in range(self.SEEDS):
            case = Case(seed)
            told = self.asked(case, [first(node) for node in range(len(case.lines))])
            chance = random.Random(seed)
            for time in range(5):
                for node in self.missed_again(case, chance):
                    self.assertIn(told[node], ([0], [2]), seed)

    def missed_again(self, case, chance):
        node, state = 0, frozen(case.first_state())
        stood, again = set(), set()
        for step in range(40):
            state, miss = behind(case, state, chance.choice(choices(case, node)))
            if miss and node in stood:
                again.add(node)
            stood.add(node)
            targets = [target for source, target in case.edges if source == node]
            if not targets:
                break
            node = chance.choice(targets)
        return again


if __name__ == "__main__":
    unittest.main()
