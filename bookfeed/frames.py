"""Frames and their bytes. A byte is a whole number from 0 to 255; bytes are a list of these."""

CHANGE = 1
SNAPSHOT = 2
BEAT = 3


class Frame:
    """Entries are pairs of key and amount: one of a change, any of a snapshot, none of a beat."""

    def __init__(self, kind, number, entries):
        self.kind = kind
        self.number = number
        self.entries = entries


def frame_octets(frame):
    octets = [frame.kind] + high_first(frame.number, 4)
    if frame.kind == SNAPSHOT:
        octets.append(len(frame.entries))
    for entry in frame.entries:
        octets.extend(entry_octets(entry))
    return octets + high_first(check_of(octets), 2)


def entry_octets(entry):
    key = entry[0]
    amount = entry[1]
    return [2 * key[0] + key[1]] + number_octets(unsigned(key[2])) + number_octets(amount)


def unsigned(price):
    """Prices below 0 lie between the others, so that a small one is short on either side of 0."""
    if price >= 0:
        return 2 * price
    return -2 * price - 1


def number_octets(number):
    octets = []
    rest = number
    while rest >= 128:
        octets.append(128 + rest % 128)
        rest = rest // 128
    octets.append(rest)
    return octets


def high_first(number, size):
    octets = []
    rest = number
    for place in range(size):
        octets.append(rest % 256)
        rest = rest // 256
    octets.reverse()
    return octets


def check_of(octets):
    return sum([place * octet for place, octet in enumerate(octets, start=1)]) % 65536
