"""The package's interface: a list of calls is answered by a list of numbers."""

from bookfeed.calls import RANGES, WITH_OCTETS, Desk, answer


def answers(calls):
    desk = Desk()
    told = []
    start = 0
    while start < len(calls):
        first = first_number(calls, start)
        stop = first + count_of_numbers(calls, start)
        numbers = answer(desk, calls[start], calls[first:stop])
        told.append(len(numbers))
        told.extend(numbers)
        start = stop
    return told


def first_number(calls, start):
    """Where the call's numbers begin: before bytes stands how many they are."""
    if calls[start] in WITH_OCTETS:
        return start + 2
    return start + 1


def count_of_numbers(calls, start):
    if calls[start] in WITH_OCTETS:
        return calls[start + 1]
    return len(RANGES[calls[start]])
