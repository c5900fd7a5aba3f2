"""The calls on one object: what each one does and answers, and what it refuses."""

from bookfeed.frames import frame_octets
from bookfeed.house import (
    House,
    changes_full,
    frames_full,
    last_number,
    make_change,
    no_room_for,
    send_beat,
    send_snapshot,
)
from bookfeed.levels import levels_row, one_side
from bookfeed.members import frame_comes

DONE = 0
BAD_CALL = -1
NO_HOUSE = -2
NO_MEMBER_OR_BOOK = -3
NO_FRAME = -4
FULL = -5
TOO_MANY_LEVELS = -6
SAME_AMOUNT = -7
WAITING = -8

SELLS = 0
BUYS = 1

# For each call, by its place: the least and the greatest of each of its numbers.
RANGES = (
    ((1, 4), (1, 4)),
    ((0, 3), (0, 1), (-1000000, 1000000), (0, 1000000000)),
    (),
    (),
    ((0, 199),),
    ((0, 3), (0, 199)),
    ((0, 3), (0, 199), (0, 199)),
    ((0, 3), (0, 199), (0, 199)),
    ((0, 3),),
    ((0, 3),),
    ((0, 3),),
)

WITHOUT_HOUSE = (0,)


class Desk:
    """The object that a line's calls are made on."""

    def __init__(self):
        self.house = None


def row_of(numbers):
    return [len(numbers)] + numbers


def pairs_row(pairs):
    numbers = []
    for pair in pairs:
        numbers.extend(pair)
    return row_of(numbers)


def has_member(house, member):
    return member < len(house.members)


def has_book(house, book):
    return book < house.books


def has_frame(house, place):
    return place < len(house.frames)


def open_house(desk, numbers):
    desk.house = House(numbers[0], numbers[1])
    return [DONE]


def set_amount(desk, numbers):
    house = desk.house
    key = (numbers[0], numbers[1], numbers[2])
    amount = numbers[3]
    if not has_book(house, key[0]):
        return [NO_MEMBER_OR_BOOK]
    if house.levels.get(key, 0) == amount:
        return [SAME_AMOUNT]
    if no_room_for(house, key):
        return [TOO_MANY_LEVELS]
    if changes_full(house):
        return [FULL]
    place = make_change(house, key, amount)
    return [DONE, last_number(house), place]


def snap(desk, numbers):
    house = desk.house
    if frames_full(house):
        return [FULL]
    place = send_snapshot(house)
    return [DONE, place, len(frame_octets(house.frames[place]))]


def beat(desk, numbers):
    if frames_full(desk.house):
        return [FULL]
    return [DONE, send_beat(desk.house)]


def tell_frame(desk, numbers):
    house = desk.house
    place = numbers[0]
    if not has_frame(house, place):
        return [NO_FRAME]
    return [DONE] + row_of(frame_octets(house.frames[place]))


def deliver(desk, numbers):
    return bring(desk.house, numbers[0], [numbers[1]])


def burst(desk, numbers):
    return bring(desk.house, numbers[0], list(range(numbers[1], numbers[2] + 1)))


def back(desk, numbers):
    return bring(desk.house, numbers[0], list(range(numbers[2], numbers[1] - 1, -1)))


def bring(house, place, frame_places):
    """The frames come to the member in the order of their places in the list.

    A last place below the first makes the list empty.
    """
    if not has_member(house, place):
        return [NO_MEMBER_OR_BOOK]
    if len(frame_places) == 0 or not has_frame(house, max(frame_places)):
        return [NO_FRAME]
    member = house.members[place]
    done = 0
    for frame_place in frame_places:
        done = done + frame_comes(member, house.frames[frame_place])
    return [DONE, member.number, len(member.kept), done]


def tell_view(desk, numbers):
    house = desk.house
    if not has_member(house, numbers[0]):
        return [NO_MEMBER_OR_BOOK]
    member = house.members[numbers[0]]
    if not member.live:
        return [WAITING]
    return [DONE, member.number] + row_of(levels_row(member.view))


def tell_member(desk, numbers):
    house = desk.house
    if not has_member(house, numbers[0]):
        return [NO_MEMBER_OR_BOOK]
    member = house.members[numbers[0]]
    slow = 1 if member.slow else 0
    return [DONE, member.number, member.heard, slow] + row_of(sorted(member.kept))


def tell_book(desk, numbers):
    house = desk.house
    book = numbers[0]
    if not has_book(house, book):
        return [NO_MEMBER_OR_BOOK]
    buys = one_side(house.levels, book, BUYS)
    buys.reverse()
    return [DONE] + pairs_row(buys) + pairs_row(one_side(house.levels, book, SELLS))


HANDLERS = (
    open_house,
    set_amount,
    snap,
    beat,
    tell_frame,
    deliver,
    burst,
    back,
    tell_view,
    tell_member,
    tell_book,
)


def in_ranges(place, numbers):
    for bounds, number in zip(RANGES[place], numbers, strict=True):
        if number < bounds[0] or number > bounds[1]:
            return False
    return True


def answer(desk, place, numbers):
    if place >= len(HANDLERS) or not in_ranges(place, numbers):
        return [BAD_CALL]
    if desk.house is None and place not in WITHOUT_HOUSE:
        return [NO_HOUSE]
    handler = HANDLERS[place]
    return handler(desk, numbers)
