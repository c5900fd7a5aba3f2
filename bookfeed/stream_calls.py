"""The calls about bytes: decode, feed and reset. They need no house."""

from bookfeed.reading import FINE, read_frame
from bookfeed.stream import Reader, octets_come
from bookfeed.told import DONE, entries_row, joined_row


def decode(desk, octets):
    reading = read_frame(octets)
    if reading.wrong != FINE:
        return [DONE, reading.wrong]
    frame = reading.frame
    return [DONE, FINE, frame.kind, frame.number] + entries_row(frame.entries)


def feed(desk, octets):
    readings = octets_come(desk.reader, octets)
    broken = 1 if desk.reader.broken else 0
    return [DONE, broken, len(desk.reader.waiting)] + joined_row([short_of(reading) for reading in readings])


def short_of(reading):
    if reading.wrong != FINE:
        return (reading.wrong, 0, 0)
    return (FINE, reading.frame.kind, reading.frame.number)


def reset(desk, numbers):
    desk.reader = Reader()
    return [DONE]
