"""The interface: a list of calls on one new object, and its answers."""

from surelines.calls import Held, answer_of

# How many whole numbers a call has, by its number, if it has no list.
NUMBERS = {0: 3, 1: 1, 2: 1, 7: 1, 8: 0, 9: 0, 10: 1, 11: 1, 12: 1, 13: 1, 14: 0}
CALLS_WITH_A_LIST = (3, 4, 5, 6)


def numbers_begin(calls, place):
    """Where the numbers of the call at this place begin: a list's stand behind its count."""
    return place + 2 if calls[place] in CALLS_WITH_A_LIST else place + 1


def numbers_end(calls, place):
    if calls[place] in CALLS_WITH_A_LIST:
        return place + 2 + calls[place + 1]
    return place + 1 + NUMBERS[calls[place]]


def answers(calls):
    held = Held()
    told = []
    place = 0
    while place < len(calls):
        end = numbers_end(calls, place)
        answer = answer_of(held, calls[place], calls[numbers_begin(calls, place):end])
        told.append(len(answer))
        told.extend(answer)
        place = end
    return told
