"""The package's interface: a list of calls is answered by a list of numbers."""

from bookfeed.calls import Desk, answer

# For each call, by its place: how many numbers it has, its list not counted.
COUNTS = (2, 4, 0, 0, 1, 2, 3, 3, 1, 1, 1, 2, 1, 0, 1, 2, 1, 1, 0, 0, 1, 0)

# The calls behind whose numbers a list stands, with its length before it.
WITH_LIST = (13, 18)


def answers(calls):
    desk = Desk()
    told = []
    start = 0
    while start < len(calls):
        stop = call_end(calls, start)
        numbers = answer(desk, calls[start], calls[start + 1:stop])
        told.append(len(numbers))
        told.extend(numbers)
        start = stop
    return told


def call_end(calls, start):
    place = calls[start]
    stop = start + 1 + COUNTS[place]
    if place in WITH_LIST:
        stop = stop + 1 + calls[stop]
    return stop
