"""Bounds on the ages of lines, and the rounds that find them before each node."""

from surelines.touches import room_for, share_set


class Bounds:
    """Two dicts from a line to its age: at most this one (sure), at least this one (possible)."""

    def __init__(self, sure, possible):
        self.sure = sure
        self.possible = possible


class Rounds:
    """How many rounds were made, and the bounds before each node then, None if it isn't come to."""

    def __init__(self, number, before):
        self.number = number
        self.before = before


def bounds_of_state(state):
    ages = {}
    for held in state:
        for age, line in enumerate(held):
            ages[line] = age
    return Bounds(dict(ages), dict(ages))


def joined_sure(one, other):
    ages = {}
    for line, age in one.items():
        if line in other:
            ages[line] = max(age, other[line])
    return ages


def joined_possible(one, other):
    ages = dict(one)
    for line, age in other.items():
        ages[line] = min(age, ages.get(line, age))
    return ages


def joined(one, other):
    return Bounds(joined_sure(one.sure, other.sure), joined_possible(one.possible, other.possible))


def joined_if_any(one, other):
    """Here one may be None, for nothing to join with yet."""
    return other if one is None else joined(one, other)


def aged(cache, ages, line, oldest):
    """Of the line's set, each other line whose age is at most the oldest gets 1 more."""
    room = room_for(cache, line)
    told = {}
    for other, age in ages.items():
        grows = share_set(cache, line, other) and other != line and age <= oldest
        if not grows:
            told[other] = age
        elif age + 1 < room:
            told[other] = age + 1
    return told


def touched_by_rule_0(cache, bounds, line):
    room = room_for(cache, line)
    # With an age of the room itself, which no line has, all lines of the set get older.
    sure = aged(cache, bounds.sure, line, bounds.sure.get(line, room) - 1)
    possible = aged(cache, bounds.possible, line, bounds.possible.get(line, room))
    sure[line] = 0
    possible[line] = 0
    return Bounds(sure, possible)


def touched_by_rule_1(cache, bounds, line):
    if line in bounds.sure:
        return bounds
    room = room_for(cache, line)
    sure = aged(cache, bounds.sure, line, room)
    if line in bounds.possible:
        sure[line] = room - 1
        possible = dict(bounds.possible)
    else:
        sure[line] = 0
        possible = aged(cache, bounds.possible, line, room)
    possible[line] = 0
    return Bounds(sure, possible)


def touched_bounds(cache, bounds, line):
    # Bounds come from states, so in a set with no room none is sure or possible before either.
    if line in cache.locked or room_for(cache, line) == 0:
        return bounds
    if cache.rule == 0:
        return touched_by_rule_0(cache, bounds, line)
    return touched_by_rule_1(cache, bounds, line)


def bounds_behind(cache, bounds, lines):
    """Behind a node with these lines, where the bounds are those before it."""
    behind = None
    for line in lines:
        behind = joined_if_any(behind, touched_bounds(cache, bounds, line))
    return bounds if behind is None else behind


def one_round(cache, graph, at_first, before):
    """The new bounds of each node, None if it isn't come to."""
    made = [None for lines in graph.lines]
    behind = [None for lines in graph.lines]
    for node, lines in enumerate(graph.lines):
        if before[node] is not None:
            behind[node] = bounds_behind(cache, before[node], lines)
    made[0] = at_first
    for source, target in graph.edges:
        if behind[source] is not None:
            made[target] = joined_if_any(made[target], behind[source])
    return made


def are_same(one, other):
    if one is None or other is None:
        return one is None and other is None
    return one.sure == other.sure and one.possible == other.possible


def all_rounds(cache, graph, state):
    """Rounds from this state at first on, the last of which is the one that changes nothing."""
    at_first = bounds_of_state(state)
    before = [None for lines in graph.lines]
    before[0] = at_first
    number = 0
    changed = True
    while changed:
        made = one_round(cache, graph, at_first, before)
        number = number + 1
        changed = not all([are_same(one, other) for one, other in zip(before, made)])
        before = made
    return Rounds(number, before)
