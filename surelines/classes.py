"""A node's class: whether it always hits, always misses, or neither, by bounds or by all moments."""

from surelines.moments import moments_at
from surelines.touches import is_hit

NO_LINES = 0
ALWAYS_HIT = 1
ALWAYS_MISS = 2
NEITHER = 3
NOT_COME_TO = 4


def class_by_bounds(cache, lines, bounds):
    """The bounds are those before the node with these lines, or None."""
    if len(lines) == 0:
        return NO_LINES
    if bounds is None:
        return NOT_COME_TO
    if all([line in bounds.sure or line in cache.locked for line in lines]):
        return ALWAYS_HIT
    if not any([line in bounds.possible or line in cache.locked for line in lines]):
        return ALWAYS_MISS
    return NEITHER


def hits_in(cache, lines, moments):
    """For each of the moments and each of the lines whether it's a hit."""
    hits = []
    for moment in moments:
        hits.extend([is_hit(cache, moment.state, line) for line in lines])
    return hits


def class_by_moments(cache, graph, moments, node):
    lines = graph.lines[node]
    hits = hits_in(cache, lines, moments_at(moments, node))
    if len(lines) == 0:
        return NO_LINES
    if len(hits) == 0:
        return NOT_COME_TO
    if all(hits):
        return ALWAYS_HIT
    return NEITHER if any(hits) else ALWAYS_MISS


def is_neither(cache, graph, moments, node):
    return class_by_moments(cache, graph, moments, node) == NEITHER


def misses_again(cache, graph, moments, node):
    """Whether it misses where it stood on the way before; the moments are those that watch the node."""
    again = [moment for moment in moments_at(moments, node) if moment.stood]
    return not all(hits_in(cache, graph.lines[node], again))
