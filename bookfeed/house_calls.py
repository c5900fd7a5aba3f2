"""The calls about the house: open, set, snap, beat, frame, book, at and state."""

from bookfeed.frames import frame_octets
from bookfeed.house import (
    House,
    changes_full,
    frames_full,
    has_book,
    has_frame,
    last_number,
    levels_as_of,
    make_change,
    no_room_for,
    send_beat,
    send_snapshot,
)
from bookfeed.levels import buys_of, sells_of
from bookfeed.told import (
    DONE,
    FULL,
    NO_FRAME,
    NO_MEMBER_OR_BOOK,
    SAME_AMOUNT,
    TOO_FEW_CHANGES,
    TOO_MANY_LEVELS,
    joined_row,
    levels_row,
    row_of,
)


def open_house(desk, numbers):
    desk.house = House(numbers[0], numbers[1])
    return [DONE]


def set_amount(desk, numbers):
    house = desk.house
    key = (numbers[0], numbers[1], numbers[2])
    amount = numbers[3]
    if not has_book(house, key[0]):
        return [NO_MEMBER_OR_BOOK]
    if house.levels.get(key, 0) == amount:
        return [SAME_AMOUNT]
    if no_room_for(house, key):
        return [TOO_MANY_LEVELS]
    if changes_full(house):
        return [FULL]
    place = make_change(house, key, amount)
    return [DONE, last_number(house), place]


def snap(desk, numbers):
    house = desk.house
    if frames_full(house):
        return [FULL]
    place = send_snapshot(house)
    return [DONE, place, len(frame_octets(house.frames[place]))]


def beat(desk, numbers):
    if frames_full(desk.house):
        return [FULL]
    return [DONE, send_beat(desk.house)]


def tell_frame(desk, numbers):
    house = desk.house
    place = numbers[0]
    if not has_frame(house, place):
        return [NO_FRAME]
    return [DONE] + row_of(frame_octets(house.frames[place]))


def tell_book(desk, numbers):
    house = desk.house
    book = numbers[0]
    if not has_book(house, book):
        return [NO_MEMBER_OR_BOOK]
    return [DONE] + joined_row(buys_of(house.levels, book)) + joined_row(sells_of(house.levels, book))


def tell_levels_at(desk, numbers):
    house = desk.house
    count = numbers[0]
    if count > last_number(house):
        return [TOO_FEW_CHANGES]
    return [DONE] + levels_row(levels_as_of(house, count))


def tell_state(desk, numbers):
    house = desk.house
    member_numbers = [member.number for member in house.members]
    counts = [house.books, last_number(house), len(house.frames)]
    return [DONE] + counts + levels_row(house.levels) + row_of(member_numbers)
