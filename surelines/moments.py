"""All states that there can be before each node, and the ways that lead to them."""

from surelines.graphs import nodes_behind
from surelines.touches import is_hit, touched_state

MOST_MOMENTS = 400


class Moment:
    """A node and the state before its line is touched; stood tells whether the watched node stood before.

    The way that led here is that of the moment before (None for the first one), with the line touched there.
    """

    def __init__(self, node, state, stood, before, line):
        self.node = node
        self.state = state
        self.stood = stood
        self.before = before
        self.line = line


def key_of(moment):
    return (moment.node, moment.state, moment.stood)


def lines_or_none(graph, node):
    """What can be touched at the node: one of its lines, or None if it has none."""
    return graph.lines[node] if len(graph.lines[node]) > 0 else [None]


def moments_behind(cache, graph, moment, line, watched):
    """Those behind the moment if this line is touched there, one for each node that an edge leads to."""
    state = moment.state if line is None else touched_state(cache, moment.state, line)
    stood = moment.stood or moment.node == watched
    return [Moment(target, state, stood, moment, line) for target in nodes_behind(graph, moment.node)]


def all_moments(cache, graph, state, watched):
    """All moments from this state at first on, in order, or None if there are too many.

    If the watched node is None, none is watched, and a moment is its node and its state alone.
    """
    moments = [Moment(0, state, False, None, None)]
    known = {key_of(moments[0]): True}
    taken = 0
    while taken < len(moments):
        moment = moments[taken]
        for line in lines_or_none(graph, moment.node):
            for behind in moments_behind(cache, graph, moment, line, watched):
                if key_of(behind) not in known:
                    known[key_of(behind)] = True
                    moments.append(behind)
        if len(moments) > MOST_MOMENTS:
            return None
        taken = taken + 1
    return moments


def moments_at(moments, node):
    return [moment for moment in moments if moment.node == node]


def way_to(moment):
    """The nodes before the moment's own, each with the line touched there (None if it has none)."""
    backwards = []
    while moment.before is not None:
        backwards.append((moment.before.node, moment.line))
        moment = moment.before
    return list(reversed(backwards))


def first_way(cache, graph, moments, node, wanted):
    """The way to the first moment at the node in which a line is a hit (wanted is True) or a miss (False)."""
    for moment in moments_at(moments, node):
        for line in graph.lines[node]:
            if is_hit(cache, moment.state, line) == wanted:
                return way_to(moment) + [(node, line)]
    return None
