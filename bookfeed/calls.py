"""The calls on one object: their ranges, the refusals that all of them share, and who answers each."""

from bookfeed.house_calls import (
    beat,
    open_house,
    set_amount,
    snap,
    tell_book,
    tell_frame,
    tell_levels_at,
    tell_state,
)
from bookfeed.member_calls import (
    back,
    burst,
    crash_member,
    deliver,
    drain_slow,
    make_slow,
    tell_member,
    tell_pending,
    tell_slow_view,
    tell_top,
    tell_view,
)
from bookfeed.stream import Reader
from bookfeed.stream_calls import decode, feed, reset
from bookfeed.told import BAD_CALL, NO_HOUSE

# For each call, by its place: the least and the greatest of each of its numbers, bytes not counted.
RANGES = (
    ((1, 4), (1, 4)),
    ((0, 3), (0, 1), (-1000000, 1000000), (0, 1000000000)),
    (),
    (),
    ((0, 199),),
    ((0, 3), (0, 199)),
    ((0, 3), (0, 199), (0, 199)),
    ((0, 3), (0, 199), (0, 199)),
    ((0, 3),),
    ((0, 3),),
    ((0, 3),),
    ((0, 3), (0, 3)),
    ((0, 199),),
    (),
    ((0, 3),),
    ((0, 3), (0, 1000)),
    ((0, 3),),
    ((0, 3),),
    (),
    (),
    ((0, 3),),
    (),
)

# Open, decode, feed and reset.
WITHOUT_HOUSE = (0, 13, 18, 19)

# Decode and feed: they have a row of bytes, and no numbers before it.
WITH_OCTETS = (13, 18)

MOST_OCTETS = 1000
MOST_OCTET = 255


class Desk:
    """The object that a line's calls are made on."""

    def __init__(self):
        self.house = None
        self.reader = Reader()


def is_outside(number, least, greatest):
    return number < least or number > greatest


def are_octets(numbers):
    if len(numbers) > MOST_OCTETS:
        return False
    return not any([is_outside(number, 0, MOST_OCTET) for number in numbers])


def in_ranges(place, numbers):
    if place in WITH_OCTETS:
        return are_octets(numbers)
    for bounds, number in zip(RANGES[place], numbers, strict=True):
        if is_outside(number, bounds[0], bounds[1]):
            return False
    return True


def handler_at(place):
    """The function that answers the call of this place."""
    handlers = (
        open_house,
        set_amount,
        snap,
        beat,
        tell_frame,
        deliver,
        burst,
        back,
        tell_view,
        tell_member,
        tell_book,
        tell_top,
        tell_levels_at,
        decode,
        make_slow,
        drain_slow,
        tell_slow_view,
        tell_pending,
        feed,
        reset,
        crash_member,
        tell_state,
    )
    return handlers[place]


def answer(desk, place, numbers):
    """The numbers are the call's own, or its bytes."""
    if not in_ranges(place, numbers):
        return [BAD_CALL]
    if desk.house is None and place not in WITHOUT_HOUSE:
        return [NO_HOUSE]
    handler = handler_at(place)
    return handler(desk, numbers)
