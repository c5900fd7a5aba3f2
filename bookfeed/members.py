"""Members, and what a frame that comes to one does there."""

from bookfeed.frames import CHANGE, SNAPSHOT
from bookfeed.levels import do_change

MOST_KEPT = 8
NO_NUMBER = -1


class Member:
    """Kept is a dict from a change's number to the change; pending is a list of keys."""

    def __init__(self):
        self.live = True
        self.number = 0
        self.view = {}
        self.kept = {}
        self.heard = 0
        self.slow = False
        self.slow_view = {}
        self.pending = []


def frame_comes(member, frame):
    """Gives back how many changes were done to the member's view."""
    member.heard = max(member.heard, frame.number)
    if frame.kind == SNAPSHOT:
        return snapshot_comes(member, frame)
    if frame.kind == CHANGE:
        return change_comes(member, frame)
    return 0


def snapshot_comes(member, frame):
    if member.live and member.number >= frame.number:
        return 0
    member.live = True
    member.number = frame.number
    member.view = dict(frame.entries)
    return catch_up(member)


def change_comes(member, frame):
    if member.live and frame.number <= member.number:
        return 0
    change = frame.entries[0]
    if member.live and frame.number == member.number + 1:
        do_numbered(member, frame.number, change)
        return 1 + catch_up(member)
    keep_change(member, frame.number, change)
    return 0


def do_numbered(member, number, change):
    do_change(member.view, change)
    member.number = number


def keep_change(member, number, change):
    if number in member.kept:
        return
    member.kept[number] = change
    if len(member.kept) > MOST_KEPT:
        member.kept.pop(min(member.kept))
        wait_for_snapshot(member)


def wait_for_snapshot(member):
    member.live = False
    member.number = NO_NUMBER
    member.view = {}


def catch_up(member):
    """Gives back how many of the kept changes were done to the member's view."""
    done = 0
    numbers = sorted(member.kept)
    for number in numbers:
        if number > member.number + 1:
            break
        change = member.kept.pop(number)
        if number == member.number + 1:
            do_numbered(member, number, change)
            done = done + 1
    return done


def make_pending(member, key):
    if member.slow and key not in member.pending:
        member.pending.append(key)


def join_slow(member, levels):
    member.slow = True
    member.slow_view = {}
    member.pending = sorted(levels)


def drain(member, levels, count):
    """The first pending keys, so many, are told; gives back their changes."""
    keys = member.pending[:count]
    member.pending = member.pending[count:]
    changes = [(key, levels.get(key, 0)) for key in keys]
    for change in changes:
        do_change(member.slow_view, change)
    return changes


def crash(member):
    wait_for_snapshot(member)
    member.kept = {}
    member.heard = 0
    member.slow = False
    member.slow_view = {}
    member.pending = []
