"""Caches, their states, and what touching lines makes of a state."""

LAST_LINE = 31


class Cache:
    """What stays while lines are touched: sets, ways, the rule (0 or 1) and the locked lines."""

    def __init__(self, sets, ways, rule, locked):
        self.sets = sets
        self.ways = ways
        self.rule = rule
        self.locked = locked


class Passage:
    """What touching lines in order leads to: for each 1 if it's a miss, else 0, and the state then."""

    def __init__(self, misses, state):
        self.misses = misses
        self.state = state


def are_lines(numbers):
    return all([0 <= number <= LAST_LINE for number in numbers])


def share_set(cache, line, other):
    return line % cache.sets == other % cache.sets


def room_for(cache, line):
    """How many lines that aren't locked the line's set can hold."""
    locked = [other for other in cache.locked if share_set(cache, line, other)]
    return max(cache.ways - len(locked), 0)


def empty_state(cache):
    """A state is a tuple with a tuple for each set: the lines it holds, the newest first."""
    return ((),) * cache.sets


def is_hit(cache, state, line):
    return line in cache.locked or line in state[line % cache.sets]


def touched_state(cache, state, line):
    if line in cache.locked:
        return state
    place = line % cache.sets
    held = state[place]
    if cache.rule == 1 and line in held:
        return state
    others = [other for other in held if other != line]
    newest_first = [line] + others
    kept = tuple(newest_first[:room_for(cache, line)])
    return state[:place] + (kept,) + state[place + 1:]


def touched_in_order(cache, state, lines):
    misses = []
    for line in lines:
        misses.append(0 if is_hit(cache, state, line) else 1)
        state = touched_state(cache, state, line)
    return Passage(misses, state)


def passage_from_empty(cache, lines):
    return touched_in_order(cache, empty_state(cache), lines)
