"""Writes calls as lists of numbers, and takes their answers apart again."""

from surelines.caches import answers

HUGE = 10 ** 18


def cache(sets, ways, rule):
    return [0, sets, ways, rule]


def lock(line):
    return [1, line]


def unlock(line):
    return [2, line]


def warm(*lines):
    return [3, len(lines)] + list(lines)


def graph(*row):
    return [4, len(row)] + list(row)


def row(*lines):
    return [5, len(lines)] + list(lines)


def ways(*lines):
    return [6, len(lines)] + list(lines)


def bounds(node):
    return [7, node]


def classes():
    return [8]


def exact():
    return [9]


def states(node):
    return [10, node]


def show(node):
    return [11, node]


def first(node):
    return [12, node]


def most(nodes):
    return [13, nodes]


def size():
    return [14]


def split(told):
    """The answers one by one, from the list in which each stands behind its length."""
    parts = []
    place = 0
    while place < len(told):
        end = place + 1 + told[place]
        if end > len(told):
            raise ValueError("an answer is longer than what is left")
        parts.append(told[place + 1:end])
        place = end
    return parts


def run(*calls):
    """Each call's answer, on one object."""
    joined = []
    for call in calls:
        joined = joined + call
    return split(answers(joined))


def last(*calls):
    """The last call's answer."""
    return run(*calls)[-1]


def graph_of(lines, edges):
    """The graph call for a list of lines for each node, and pairs of nodes."""
    told = [len(lines)]
    for own in lines:
        told += [len(own)] + list(own)
    for source, target in edges:
        told += [source, target]
    return graph(*told)


def fan_out(in_front):
    """A cache and a graph with 400 moments, and one more for each node without lines in front.

    All lines differ, and there are 4 ways: before the nodes 0 to 7 of the row there are 1, 3, 9, 27, 81, 81,
    81 and 81 states, before the two nodes at its side, which stand behind 1 and 2, there are 9 and 27.
    """
    row_of_nodes = [[3 * node, 3 * node + 1, 3 * node + 2] for node in range(8)]
    edges = [(node, node + 1) for node in range(7)] + [(1, 8), (2, 9)]
    shifted = [(node, node + 1) for node in range(in_front)]
    shifted += [(source + in_front, target + in_front) for source, target in edges]
    return [cache(1, 4, 0), graph_of([[]] * in_front + row_of_nodes + [[], []], shifted)]


def loop_of_lines(nodes):
    """A cache and a graph with far too many moments, of so many nodes."""
    lines = [[(3 * node + place) % 32 for place in range(3)] for node in range(nodes)]
    return [cache(1, 4, 0), graph_of(lines, [(node, (node + 1) % nodes) for node in range(nodes)])]
