"""A stream: bytes that come in whatever pieces are cut into frames."""

from bookfeed.reading import read_frame

LENGTH_SIZE = 2
MOST_FRAME_OCTETS = 400


class Reader:
    """Waiting is a list of bytes."""

    def __init__(self):
        self.waiting = []
        self.broken = False


def octets_come(reader, octets):
    """Gives back what came of reading each frame, in order."""
    readings = []
    if reader.broken:
        return readings
    waiting = reader.waiting + octets
    start = 0
    while len(waiting) - start >= LENGTH_SIZE:
        size = 256 * waiting[start] + waiting[start + 1]
        if size > MOST_FRAME_OCTETS:
            reader.broken = True
            start = len(waiting)
            break
        stop = start + LENGTH_SIZE + size
        if stop > len(waiting):
            break
        readings.append(read_frame(waiting[start + LENGTH_SIZE:stop]))
        start = stop
    reader.waiting = waiting[start:]
    return readings
