"""The calls on one object: each takes what is held and its numbers, and answers a list of numbers."""

from surelines.bounds import bounds_before_nodes
from surelines.graphs import Graph, graph_told, has_node
from surelines.touches import Cache, are_lines, passage_from_empty, room_for, touched_in_order

NOT_THERE = -3
NO_SUCH_CACHE = -7
TOO_MANY_WARM = -8
NO_ROOM = -9
NO_GRAPH = -12

NOT_COME_TO = 1

MOST_WAYS = 4
MOST_WARM = 16


class Held:
    """What an object holds, as it is at the beginning."""

    def __init__(self):
        self.cache = Cache(1, 2, 0, [])
        self.warm = []
        self.graph = Graph([[]], [])


def state_at_first(held):
    return passage_from_empty(held.cache, held.warm).state


def cache_call(held, numbers):
    sets = numbers[0]
    ways = numbers[1]
    rule = numbers[2]
    if sets not in (1, 2, 4) or not 1 <= ways <= MOST_WAYS or rule not in (0, 1):
        return [NO_SUCH_CACHE]
    held.cache = Cache(sets, ways, rule, [])
    held.warm = []
    return [0]


def change_locked(held, locked):
    cache = held.cache
    held.cache = Cache(cache.sets, cache.ways, cache.rule, locked)
    return [0, len(locked)]


def lock_call(held, numbers):
    line = numbers[0]
    if not are_lines([line]) or line in held.cache.locked:
        return [NOT_THERE]
    if room_for(held.cache, line) == 0:
        return [NO_ROOM]
    return change_locked(held, held.cache.locked + [line])


def unlock_call(held, numbers):
    line = numbers[0]
    if line not in held.cache.locked:
        return [NOT_THERE]
    return change_locked(held, [other for other in held.cache.locked if other != line])


def warm_call(held, numbers):
    if not are_lines(numbers):
        return [NOT_THERE]
    if len(numbers) > MOST_WARM:
        return [TOO_MANY_WARM]
    held.warm = numbers
    return [0, sum(passage_from_empty(held.cache, numbers).misses)]


def graph_call(held, numbers):
    graph = graph_told(numbers)
    if graph is None:
        return [NO_GRAPH]
    held.graph = graph
    return [0, len(graph.lines), len(graph.edges)]


def state_told(state):
    told = []
    for lines in state:
        told.append(len(lines))
        told.extend(lines)
    return told


def row_call(held, numbers):
    if not are_lines(numbers):
        return [NOT_THERE]
    passage = touched_in_order(held.cache, state_at_first(held), numbers)
    return [0, sum(passage.misses)] + passage.misses + state_told(passage.state)


def ways_call(held, numbers):
    if not are_lines(numbers):
        return [NOT_THERE]
    told = [0]
    for ways in range(1, MOST_WAYS + 1):
        cache = Cache(held.cache.sets, ways, held.cache.rule, [])
        told.append(sum(passage_from_empty(cache, numbers).misses))
    return told


def ages_told(ages):
    told = [len(ages)]
    for line in sorted(ages):
        told.append(line)
        told.append(ages[line])
    return told


def bounds_call(held, numbers):
    node = numbers[0]
    if not has_node(held.graph, node):
        return [NOT_THERE]
    bounds = bounds_before_nodes(held.cache, held.graph, state_at_first(held))[node]
    if bounds is None:
        return [NOT_COME_TO]
    return [0] + ages_told(bounds.sure) + ages_told(bounds.possible)


# By the calls' numbers.
CALLS = (cache_call, lock_call, unlock_call, warm_call, graph_call, row_call, ways_call, bounds_call)


def answer_of(held, call, numbers):
    return CALLS[call](held, numbers)
