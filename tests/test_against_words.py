"""Holds many small cases against a second, plainer telling of the words.

There a bound is told for every line, with the room itself for a line that isn't sure (or possible): so
joining is the greater (the lesser) number, line by line.
"""

import itertools
import random
import unittest

from tests.helper import bounds, cache, graph_of, lock, row, run, warm


class Words:
    def __init__(self, sets, ways, rule, locked):
        self.sets = sets
        self.rule = rule
        self.locked = locked
        self.room = [ways - sum(1 for x in locked if x % sets == place % sets) for place in range(32)]

    def touch(self, state, x):
        """Whether it's a miss; state is a list of lists, which is changed."""
        own = state[x % self.sets]
        if x in self.locked:
            return 0
        if x in own:
            if self.rule == 0:
                own.remove(x)
                own.insert(0, x)
            return 0
        own.insert(0, x)
        if len(own) > self.room[x]:
            own.pop()
        return 1

    def state_bounds(self, state):
        ages = list(self.room)
        for own in state:
            for age, x in enumerate(own):
                ages[x] = age
        return ages, list(ages)

    def touch_bounds(self, sure, possible, x):
        room = self.room[x]
        if x in self.locked or room == 0:
            return sure, possible
        same = [y for y in range(32) if y % self.sets == x % self.sets and y != x]
        before, low = sure[x], possible[x]
        sure, possible = list(sure), list(possible)
        if self.rule == 0:
            for y in same:
                sure[y] += 1 if sure[y] < before else 0
                possible[y] += 1 if possible[y] <= low and possible[y] < room else 0
            sure[x] = possible[x] = 0
        elif before == room:
            for y in same:
                sure[y] = min(room, sure[y] + 1)
                possible[y] = min(room, possible[y] + 1) if low == room else possible[y]
            sure[x] = 0 if low == room else room - 1
            possible[x] = 0
        return sure, possible

    def join(self, many):
        return ([max(ages) for ages in zip(*[sure for sure, possible in many])],
                [min(ages) for ages in zip(*[possible for sure, possible in many])])

    def rounds(self, lines, edges, state):
        """The bounds before each node, and how many rounds were made."""
        start = self.state_bounds(state)
        before = [start] + [None] * (len(lines) - 1)
        for number in itertools.count(1):
            made = []
            for node in range(len(lines)):
                many = [start] if node == 0 else []
                for source, target in edges:
                    if target == node and before[source] is not None:
                        known = before[source]
                        many += [self.touch_bounds(*known, x) for x in lines[source]] or [known]
                made.append(self.join(many) if many else None)
            if made == before:
                return before, number
            before = made

    def told(self, known):
        if known is None:
            return [1]
        numbers = [0]
        for ages in known:
            pairs = [(x, ages[x]) for x in range(32) if ages[x] < self.room[x] and x not in self.locked]
            numbers += [len(pairs)] + [number for pair in pairs for number in pair]
        return numbers


class Case:
    def __init__(self, seed):
        chance = random.Random(seed)
        self.sets = chance.choice([1, 1, 2, 4])
        self.ways = chance.randint(1, 4)
        self.rule = chance.randint(0, 1)
        pool = chance.sample(range(32), chance.randint(3, 12))
        self.locked = []
        for x in chance.sample(pool, chance.randint(0, 3)):
            if sum(1 for y in self.locked if y % self.sets == x % self.sets) < self.ways:
                self.locked.append(x)
        self.warm = [chance.choice(pool) for time in range(chance.randint(0, 6))]
        nodes = chance.randint(1, 12)
        self.lines = [chance.sample(pool, chance.randint(0, 3)) for node in range(nodes)]
        # In most cases there's an edge to each node from one before it, so that it's come to.
        self.edges = [(chance.randrange(node), node) for node in range(1, nodes) if seed % 4 > 0]
        count = chance.randint(0, 24 - len(self.edges))
        self.edges += [(chance.randrange(nodes), chance.randrange(nodes)) for edge in range(count)]
        chance.shuffle(self.edges)
        self.row = [chance.choice(pool) for time in range(chance.randint(0, 40))]
        self.words = Words(self.sets, self.ways, self.rule, self.locked)

    def first_state(self):
        state = [[] for place in range(self.sets)]
        for x in self.warm:
            self.words.touch(state, x)
        return state

    def before(self):
        return [cache(self.sets, self.ways, self.rule)] + [lock(x) for x in self.locked] + [
            warm(*self.warm), graph_of(self.lines, self.edges)]


class AgainstWordsTest(unittest.TestCase):
    def test_rows(self):
        for seed in range(300):
            case = Case(seed)
            state = case.first_state()
            misses = [case.words.touch(state, x) for x in case.row]
            expected = [0, sum(misses)] + misses
            for own in state:
                expected += [len(own)] + own
            self.assertEqual(run(*case.before(), row(*case.row))[-1], expected, seed)

    def test_bounds(self):
        for seed in range(300):
            case = Case(seed)
            known = case.words.rounds(case.lines, case.edges, case.first_state())[0]
            calls = [bounds(node) for node in range(len(case.lines))]
            answers = run(*case.before(), *calls)[-len(calls):]
            self.assertEqual(answers, [case.words.told(each) for each in known], seed)

    def test_bounds_hold_on_ways(self):
        """What is sure is there, and what is there is possible, on ways taken by chance."""
        for seed in range(120):
            case = Case(seed)
            calls = [bounds(node) for node in range(len(case.lines))]
            answers = run(*case.before(), *calls)[-len(calls):]
            chance = random.Random(seed)
            for time in range(5):
                self.walk(case, answers, chance)

    def walk(self, case, answers, chance):
        node, state = 0, case.first_state()
        for step in range(30):
            sure, possible = self.pairs(answers[node])
            ages = {}
            for own in state:
                ages.update({x: age for age, x in enumerate(own)})
            self.assertTrue(all(x in ages and ages[x] <= age for x, age in sure.items()))
            self.assertTrue(all(x in possible and age >= possible[x] for x, age in ages.items()))
            if case.lines[node]:
                case.words.touch(state, chance.choice(case.lines[node]))
            targets = [target for source, target in case.edges if source == node]
            if not targets:
                return
            node = chance.choice(targets)

    def pairs(self, answer):
        self.assertEqual(answer[0], 0)
        middle = 2 + 2 * answer[1]
        sure, possible = answer[2:middle], answer[middle + 1:]
        self.assertEqual(2 * answer[middle], len(possible))
        return dict(zip(sure[::2], sure[1::2])), dict(zip(possible[::2], possible[1::2]))


if __name__ == "__main__":
    unittest.main()
