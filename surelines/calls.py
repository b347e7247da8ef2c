"""The calls on one object: each takes what is held and its numbers, and answers a list of numbers."""

from surelines.bounds import all_rounds
from surelines.classes import class_by_bounds, class_by_moments, is_neither, misses_again
from surelines.graphs import Graph, graph_told, has_node
from surelines.moments import all_moments, first_way, moments_at
from surelines.most import most_misses
from surelines.touches import Cache, are_lines, passage_from_empty, room_for, touched_in_order

NOT_THERE = -3
OUT_OF_RANGE = -7
TOO_MANY_WARM = -8
NO_ROOM = -9
NO_GRAPH = -12

NOT_COME_TO = 1
NOT_NEITHER = 1
TOO_MANY = 2

MOST_WAYS = 4
MOST_WARM = 16
MOST_NODES_OF_A_WAY = 40


class Held:
    """What an object holds, as it is at the beginning."""

    def __init__(self):
        self.cache = Cache(1, 2, 0, [])
        self.warm = []
        self.graph = Graph([[]], [])


def state_at_first(held):
    return passage_from_empty(held.cache, held.warm).state


def rounds_held(held):
    return all_rounds(held.cache, held.graph, state_at_first(held))


def moments_held(held, watched):
    return all_moments(held.cache, held.graph, state_at_first(held), watched)


def cache_call(held, numbers):
    sets = numbers[0]
    ways = numbers[1]
    rule = numbers[2]
    if sets not in (1, 2, 4) or not 1 <= ways <= MOST_WAYS or rule not in (0, 1):
        return [OUT_OF_RANGE]
    held.cache = Cache(sets, ways, rule, [])
    held.warm = []
    return [0]


def change_locked(held, locked):
    cache = held.cache
    held.cache = Cache(cache.sets, cache.ways, cache.rule, locked)
    return [0, len(locked)]


def lock_call(held, numbers):
    line = numbers[0]
    if not are_lines([line]) or line in held.cache.locked:
        return [NOT_THERE]
    if room_for(held.cache, line) == 0:
        return [NO_ROOM]
    return change_locked(held, held.cache.locked + [line])


def unlock_call(held, numbers):
    line = numbers[0]
    if line not in held.cache.locked:
        return [NOT_THERE]
    return change_locked(held, [other for other in held.cache.locked if other != line])


def warm_call(held, numbers):
    if not are_lines(numbers):
        return [NOT_THERE]
    if len(numbers) > MOST_WARM:
        return [TOO_MANY_WARM]
    held.warm = numbers
    return [0, sum(passage_from_empty(held.cache, numbers).misses)]


def graph_call(held, numbers):
    graph = graph_told(numbers)
    if graph is None:
        return [NO_GRAPH]
    held.graph = graph
    return [0, len(graph.lines), len(graph.edges)]


def state_told(state):
    told = []
    for lines in state:
        told.append(len(lines))
        told.extend(lines)
    return told


def row_call(held, numbers):
    if not are_lines(numbers):
        return [NOT_THERE]
    passage = touched_in_order(held.cache, state_at_first(held), numbers)
    return [0, sum(passage.misses)] + passage.misses + state_told(passage.state)


def ways_call(held, numbers):
    if not are_lines(numbers):
        return [NOT_THERE]
    told = [0]
    for ways in range(1, MOST_WAYS + 1):
        cache = Cache(held.cache.sets, ways, held.cache.rule, [])
        told.append(sum(passage_from_empty(cache, numbers).misses))
    return told


def ages_told(ages):
    told = [len(ages)]
    for line in sorted(ages):
        told.append(line)
        told.append(ages[line])
    return told


def bounds_call(held, numbers):
    node = numbers[0]
    if not has_node(held.graph, node):
        return [NOT_THERE]
    bounds = rounds_held(held).before[node]
    if bounds is None:
        return [NOT_COME_TO]
    return [0] + ages_told(bounds.sure) + ages_told(bounds.possible)


def classes_call(held, numbers):
    rounds = rounds_held(held)
    told = [0, rounds.number]
    for lines, bounds in zip(held.graph.lines, rounds.before):
        told.append(class_by_bounds(held.cache, lines, bounds))
    return told


def exact_call(held, numbers):
    moments = moments_held(held, None)
    if moments is None:
        return [TOO_MANY]
    told = [0, len(moments)]
    for node in range(len(held.graph.lines)):
        told.append(class_by_moments(held.cache, held.graph, moments, node))
    return told


def states_call(held, numbers):
    node = numbers[0]
    if not has_node(held.graph, node):
        return [NOT_THERE]
    moments = moments_held(held, None)
    if moments is None:
        return [TOO_MANY]
    own = moments_at(moments, node)
    told = [0, len(own)]
    for moment in own:
        told.extend(state_told(moment.state))
    return told


def way_told(way):
    told = [len(way)]
    for node, line in way:
        told.append(node)
        told.append(0 if line is None else line + 1)
    return told


def show_call(held, numbers):
    node = numbers[0]
    if not has_node(held.graph, node):
        return [NOT_THERE]
    moments = moments_held(held, None)
    if moments is None:
        return [TOO_MANY]
    if not is_neither(held.cache, held.graph, moments, node):
        return [NOT_NEITHER]
    hit = first_way(held.cache, held.graph, moments, node, True)
    miss = first_way(held.cache, held.graph, moments, node, False)
    return [0] + way_told(hit) + way_told(miss)


def first_call(held, numbers):
    node = numbers[0]
    if not has_node(held.graph, node):
        return [NOT_THERE]
    # These are at least as many as the moments that watch no node, so they are too many wherever those are.
    moments = moments_held(held, node)
    if moments is None:
        return [TOO_MANY]
    return [0 if misses_again(held.cache, held.graph, moments, node) else 1]


def most_call(held, numbers):
    nodes = numbers[0]
    if not 1 <= nodes <= MOST_NODES_OF_A_WAY:
        return [OUT_OF_RANGE]
    moments = moments_held(held, None)
    if moments is None:
        return [TOO_MANY]
    return [0, most_misses(held.cache, held.graph, moments, nodes)]


def size_call(held, numbers):
    cache = held.cache
    graph = held.graph
    return [0, cache.sets, cache.ways, cache.rule, len(cache.locked), len(held.warm),
            len(graph.lines), len(graph.edges)]


# By the calls' numbers.
CALLS = (cache_call, lock_call, unlock_call, warm_call, graph_call, row_call, ways_call, bounds_call,
         classes_call, exact_call, states_call, show_call, first_call, most_call, size_call)


def answer_of(held, call, numbers):
    return CALLS[call](held, numbers)
