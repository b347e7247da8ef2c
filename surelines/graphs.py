"""Graphs, and the row of numbers by which one is told."""

from surelines.touches import are_lines

MOST_NODES = 12
MOST_LINES = 3
MOST_EDGES = 24


class Graph:
    """For each node the list of its lines; and the edges, each a pair: from which node, to which."""

    def __init__(self, lines, edges):
        self.lines = lines
        self.edges = edges


def has_node(graph, number):
    return 0 <= number < len(graph.lines)


def nodes_behind(graph, node):
    """The nodes to which edges lead from this one, in the edges' order, each once."""
    behind = []
    for source, target in graph.edges:
        if source == node and target not in behind:
            behind.append(target)
    return behind


def lines_told_at(row, place):
    """The lines of the node that is told from this place of the row on, or None."""
    if place >= len(row) or not 0 <= row[place] <= MOST_LINES:
        return None
    lines = row[place + 1:place + 1 + row[place]]
    if len(lines) < row[place] or not are_lines(lines) or len(set(lines)) < len(lines):
        return None
    return lines


def node_lines_told(row):
    """The lines of each node, in a list, or None."""
    if len(row) == 0 or not 1 <= row[0] <= MOST_NODES:
        return None
    told = []
    place = 1
    for node in range(row[0]):
        lines = lines_told_at(row, place)
        if lines is None:
            return None
        told.append(lines)
        place = place + 1 + len(lines)
    return told


def edges_told(numbers, nodes):
    """The edges that two numbers each tell, or None."""
    if len(numbers) % 2 == 1 or len(numbers) > 2 * MOST_EDGES:
        return None
    if not all([0 <= number < nodes for number in numbers]):
        return None
    return [(numbers[place], numbers[place + 1]) for place in range(0, len(numbers), 2)]


def graph_told(row):
    """The graph that the row tells, or None if it tells none."""
    lines = node_lines_told(row)
    if lines is None:
        return None
    behind_nodes = 1 + sum([1 + len(own) for own in lines])
    edges = edges_told(row[behind_nodes:], len(lines))
    if edges is None:
        return None
    return Graph(lines, edges)
