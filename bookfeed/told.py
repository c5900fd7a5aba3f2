"""What answers are put together from: 0 or a refusal, and rows."""

from bookfeed.levels import in_order

DONE = 0
BAD_CALL = -1
NO_HOUSE = -2
NO_MEMBER_OR_BOOK = -3
NO_FRAME = -4
TOO_FEW_CHANGES = -4
FULL = -5
TOO_MANY_LEVELS = -6
SAME_AMOUNT = -7
WAITING = -8
SLOW_ALREADY = -8
NOT_SLOW = -8


def row_of(numbers):
    return [len(numbers)] + numbers


def joined_row(parts):
    """One row of the numbers of all parts, each a tuple of numbers."""
    numbers = []
    for part in parts:
        numbers.extend(part)
    return row_of(numbers)


def entries_row(entries):
    """Pairs of key and amount, in the order in which they are handed in."""
    return joined_row([key + (amount,) for key, amount in entries])


def levels_row(levels):
    return entries_row(in_order(levels))
