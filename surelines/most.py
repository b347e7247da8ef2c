"""The greatest number of misses on a way of so many nodes."""

from surelines.moments import key_of, lines_or_none, moments_behind
from surelines.touches import is_hit


class Step:
    """One line touched in a moment: 1 if it's a miss, else 0; and the places of the moments behind."""

    def __init__(self, miss, places):
        self.miss = miss
        self.places = places


def places_of(moments):
    places = {}
    for place, moment in enumerate(moments):
        places[key_of(moment)] = place
    return places


def step_by(cache, graph, moment, line, places):
    behind = moments_behind(cache, graph, moment, line, None)
    miss = 0 if line is None or is_hit(cache, moment.state, line) else 1
    return Step(miss, [places[key_of(other)] for other in behind])


def steps_from(cache, graph, moment, places):
    return [step_by(cache, graph, moment, line, places) for line in lines_or_none(graph, moment.node)]


def most_by_step(step, most):
    # A way may end here, so with nothing behind there is nothing to add.
    return step.miss + max([most[place] for place in step.places], default=0)


def most_by_steps(steps, most):
    return max([most_by_step(step, most) for step in steps])


def most_misses(cache, graph, moments, nodes):
    """On a way of at most so many nodes; the moments are all that there are, and watch no node."""
    places = places_of(moments)
    steps = [steps_from(cache, graph, moment, places) for moment in moments]
    # For each moment, the most on what is left of a way from it on; at first nothing is left.
    most = [0 for moment in moments]
    for left in range(nodes):
        most = [most_by_steps(own, most) for own in steps]
    return most[0]
