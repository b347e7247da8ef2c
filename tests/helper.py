"""Writes calls as lists of numbers, and takes their answers apart again."""

from surelines.caches import answers

HUGE = 10 ** 18


def cache(sets, ways, rule):
    return [0, sets, ways, rule]


def lock(line):
    return [1, line]


def unlock(line):
    return [2, line]


def warm(*lines):
    return [3, len(lines)] + list(lines)


def graph(*row):
    return [4, len(row)] + list(row)


def row(*lines):
    return [5, len(lines)] + list(lines)


def ways(*lines):
    return [6, len(lines)] + list(lines)


def bounds(node):
    return [7, node]


def split(told):
    """The answers one by one, from the list in which each stands behind its length."""
    parts = []
    place = 0
    while place < len(told):
        end = place + 1 + told[place]
        if end > len(told):
            raise ValueError("an answer is longer than what is left")
        parts.append(told[place + 1:end])
        place = end
    return parts


def run(*calls):
    """Each call's answer, on one object."""
    joined = []
    for call in calls:
        joined = joined + call
    return split(answers(joined))


def last(*calls):
    """The last call's answer."""
    return run(*calls)[-1]


def graph_of(lines, edges):
    """The graph call for a list of lines for each node, and pairs of nodes."""
    told = [len(lines)]
    for own in lines:
        told += [len(own)] + list(own)
    for source, target in edges:
        told += [source, target]
    return graph(*told)
