"""Levels: a dict from a key (book, side, price) to an amount from 1 on.

A change is a pair of a key and an amount from 0 on.
"""

SELLS = 0
BUYS = 1

MOST_LEVELS = 40


def do_change(levels, change):
    key = change[0]
    amount = change[1]
    if amount > 0:
        levels[key] = amount
    else:
        levels.pop(key, None)


def in_order(levels):
    """The levels as pairs of key and amount, in the order in which levels are told."""
    return sorted(levels.items())


def buys_of(levels, book):
    """Pairs of price and amount, from the highest price on."""
    pairs = one_side(levels, book, BUYS)
    pairs.reverse()
    return pairs


def sells_of(levels, book):
    """Pairs of price and amount, from the lowest price on."""
    return one_side(levels, book, SELLS)


def one_side(levels, book, side):
    """Pairs of price and amount for one side of a book, from the lowest price on."""
    return [(key[2], amount) for key, amount in in_order(levels) if key[0] == book and key[1] == side]
