"""Reading bytes as a frame: the frame is given back, or what is wrong with the bytes."""

from bookfeed.frames import BEAT, CHANGE, SNAPSHOT, Frame, check_of
from bookfeed.levels import MOST_LEVELS

FINE = 0
TOO_SHORT = 1
BAD_CHECK = 2
NO_KIND = 3
BAD_END = 4
BAD_NUMBER = 5
BAD_ENTRY = 6

HEAD_SIZE = 5
CHECK_SIZE = 2

MOST_NUMBER_OCTETS = 5
MOST_FIRST_OCTET = 7
MOST_PRICE = 1000000
MOST_AMOUNT = 1000000000


class BadEnd(Exception):
    """The bytes end where one is wanted, or don't end where they should."""


class BadNumber(Exception):
    """A number in an entry is not in its shortest form, or too long."""


class BadEntry(Exception):
    """An entry, or how many there are, is not within its bounds or not in order."""


class Reading:
    """What came of reading bytes: 0 and the frame, or what is wrong (1 to 6) and None."""

    def __init__(self, wrong, frame):
        self.wrong = wrong
        self.frame = frame


class Cursor:
    """What stands between a frame's number and its check, and the place of the next byte."""

    def __init__(self, octets):
        self.octets = octets
        self.place = 0


def read_frame(octets):
    wrong = wrong_around(octets)
    if wrong != FINE:
        return Reading(wrong, None)
    kind = octets[0]
    body = octets[HEAD_SIZE:len(octets) - CHECK_SIZE]
    try:
        entries = read_body(kind, Cursor(body))
    except BadEnd:
        return Reading(BAD_END, None)
    except BadNumber:
        return Reading(BAD_NUMBER, None)
    except BadEntry:
        return Reading(BAD_ENTRY, None)
    return Reading(FINE, Frame(kind, from_high_first(octets[1:HEAD_SIZE]), entries))


def wrong_around(octets):
    """What is wrong with the bytes as far as that shows without reading entries."""
    if len(octets) < HEAD_SIZE + CHECK_SIZE:
        return TOO_SHORT
    stop = len(octets) - CHECK_SIZE
    if from_high_first(octets[stop:]) != check_of(octets[:stop]):
        return BAD_CHECK
    if octets[0] not in (CHANGE, SNAPSHOT, BEAT):
        return NO_KIND
    return FINE


def from_high_first(octets):
    number = 0
    for octet in octets:
        number = 256 * number + octet
    return number


def read_body(kind, cursor):
    entries = []
    if kind == CHANGE:
        entries = [read_entry(cursor, 0)]
    if kind == SNAPSHOT:
        entries = read_levels(cursor)
    if cursor.place < len(cursor.octets):
        raise BadEnd()
    return entries


def read_levels(cursor):
    count = take_octet(cursor)
    if count > MOST_LEVELS:
        raise BadEntry()
    entries = []
    for place in range(count):
        entry = read_entry(cursor, 1)
        if place > 0 and entry[0] <= entries[place - 1][0]:
            raise BadEntry()
        entries.append(entry)
    return entries


def read_entry(cursor, least_amount):
    """A pair of key and amount. Bounds are looked at only when both numbers are read."""
    first = take_octet(cursor)
    price = signed(read_number(cursor))
    amount = read_number(cursor)
    if first > MOST_FIRST_OCTET or abs(price) > MOST_PRICE:
        raise BadEntry()
    if amount < least_amount or amount > MOST_AMOUNT:
        raise BadEntry()
    return ((first // 2, first % 2, price), amount)


def signed(number):
    if number % 2 == 0:
        return number // 2
    return -((number + 1) // 2)


def read_number(cursor):
    number = 0
    scale = 1
    for place in range(MOST_NUMBER_OCTETS):
        octet = take_octet(cursor)
        if octet == 0 and place > 0:
            raise BadNumber()
        number = number + octet % 128 * scale
        if octet < 128:
            return number
        scale = scale * 128
    # A number is too long only where one more byte stands there; else the bytes end too soon.
    take_octet(cursor)
    raise BadNumber()


def take_octet(cursor):
    if cursor.place >= len(cursor.octets):
        raise BadEnd()
    octet = cursor.octets[cursor.place]
    cursor.place = cursor.place + 1
    return octet
