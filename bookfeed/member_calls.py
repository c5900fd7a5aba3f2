"""The calls about one member: what comes to it, what it holds, and what it is told when it is slow."""

from bookfeed.house import has_book, has_frame, member_at
from bookfeed.levels import buys_of, sells_of
from bookfeed.members import crash, drain, frame_comes, join_slow
from bookfeed.told import (
    DONE,
    NO_FRAME,
    NO_MEMBER_OR_BOOK,
    NOT_SLOW,
    SLOW_ALREADY,
    WAITING,
    entries_row,
    joined_row,
    levels_row,
    row_of,
)


def deliver(desk, numbers):
    return bring(desk.house, numbers[0], [numbers[1]])


def burst(desk, numbers):
    return bring(desk.house, numbers[0], list(range(numbers[1], numbers[2] + 1)))


def back(desk, numbers):
    return bring(desk.house, numbers[0], list(range(numbers[2], numbers[1] - 1, -1)))


def bring(house, place, frame_places):
    """The frames come to the member in the order of their places in the list.

    A last place below the first makes the list empty.
    """
    member = member_at(house, place)
    if member is None:
        return [NO_MEMBER_OR_BOOK]
    if len(frame_places) == 0 or not has_frame(house, max(frame_places)):
        return [NO_FRAME]
    done = 0
    for frame_place in frame_places:
        done = done + frame_comes(member, house.frames[frame_place])
    return [DONE, member.number, len(member.kept), done]


def tell_view(desk, numbers):
    member = member_at(desk.house, numbers[0])
    if member is None:
        return [NO_MEMBER_OR_BOOK]
    if not member.live:
        return [WAITING]
    return [DONE, member.number] + levels_row(member.view)


def tell_member(desk, numbers):
    member = member_at(desk.house, numbers[0])
    if member is None:
        return [NO_MEMBER_OR_BOOK]
    slow = 1 if member.slow else 0
    return [DONE, member.number, member.heard, slow] + row_of(sorted(member.kept))


def tell_top(desk, numbers):
    member = member_at(desk.house, numbers[0])
    book = numbers[1]
    if member is None or not has_book(desk.house, book):
        return [NO_MEMBER_OR_BOOK]
    if not member.live:
        return [WAITING]
    return [DONE] + first_pair(buys_of(member.view, book)) + first_pair(sells_of(member.view, book))


def first_pair(pairs):
    if len(pairs) == 0:
        return [0, 0]
    return list(pairs[0])


def make_slow(desk, numbers):
    member = member_at(desk.house, numbers[0])
    if member is None:
        return [NO_MEMBER_OR_BOOK]
    if member.slow:
        return [SLOW_ALREADY]
    join_slow(member, desk.house.levels)
    return [DONE, len(member.pending)]


def slow_refusal(member):
    """What refuses a call that only a slow member can be asked; 0 if nothing does."""
    if member is None:
        return NO_MEMBER_OR_BOOK
    if not member.slow:
        return NOT_SLOW
    return DONE


def drain_slow(desk, numbers):
    member = member_at(desk.house, numbers[0])
    refusal = slow_refusal(member)
    if refusal != DONE:
        return [refusal]
    changes = drain(member, desk.house.levels, numbers[1])
    return [DONE, len(member.pending)] + entries_row(changes)


def tell_slow_view(desk, numbers):
    member = member_at(desk.house, numbers[0])
    refusal = slow_refusal(member)
    if refusal != DONE:
        return [refusal]
    return [DONE] + levels_row(member.slow_view)


def tell_pending(desk, numbers):
    member = member_at(desk.house, numbers[0])
    refusal = slow_refusal(member)
    if refusal != DONE:
        return [refusal]
    return [DONE] + joined_row(member.pending)


def crash_member(desk, numbers):
    member = member_at(desk.house, numbers[0])
    if member is None:
        return [NO_MEMBER_OR_BOOK]
    crash(member)
    return [DONE]
