"""A house: its levels, the changes that were made, the frames that were sent, its members."""

from bookfeed.frames import BEAT, CHANGE, SNAPSHOT, Frame
from bookfeed.levels import MOST_LEVELS, do_change, in_order
from bookfeed.members import Member, make_pending

MOST_CHANGES = 120
MOST_FRAMES = 160


class House:
    def __init__(self, books, members):
        self.books = books
        self.members = [Member() for place in range(members)]
        self.levels = {}
        self.changes = []
        self.frames = []


def has_book(house, book):
    return book < house.books


def has_frame(house, place):
    return place < len(house.frames)


def member_at(house, place):
    """None if there is no such member."""
    if place >= len(house.members):
        return None
    return house.members[place]


def last_number(house):
    return len(house.changes)


def levels_as_of(house, count):
    """The levels when the first changes, so many, are done."""
    levels = {}
    for change in house.changes[:count]:
        do_change(levels, change)
    return levels


def frames_full(house):
    return len(house.frames) >= MOST_FRAMES


def changes_full(house):
    return len(house.changes) >= MOST_CHANGES or frames_full(house)


def no_room_for(house, key):
    return len(house.levels) >= MOST_LEVELS and key not in house.levels


def send(house, kind, entries):
    """Gives back the place of the frame, which has the last change's number."""
    house.frames.append(Frame(kind, last_number(house), entries))
    return len(house.frames) - 1


def make_change(house, key, amount):
    """Gives back the place of the change's frame."""
    change = (key, amount)
    house.changes.append(change)
    do_change(house.levels, change)
    for member in house.members:
        make_pending(member, key)
    return send(house, CHANGE, [change])


def send_snapshot(house):
    return send(house, SNAPSHOT, in_order(house.levels))


def send_beat(house):
    return send(house, BEAT, [])
