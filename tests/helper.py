"""What the tests share: asking a line of calls, and reading a frame's bytes back."""

from bookfeed.desk import answers

OPEN, SET, SNAP, BEAT, FRAME, DELIVER, BURST, BACK, VIEW, MEMBER, BOOK = range(11)
TOP, AT, DECODE, JOIN, DRAIN, SLOW, PENDING, FEED, RESET, CRASH, STATE = range(11, 22)

# For each call: numbers that a house with four books and four members takes, and their ranges.
# Decode and feed have the length of an empty row of bytes, whose ranges are not here.
PLACES = (0, 199)
FOUR = (0, 3)
CALLS = {
    OPEN: ((4, 4), ((1, 4), (1, 4))),
    SET: ((0, 0, 0, 7), (FOUR, (0, 1), (-1000000, 1000000), (0, 1000000000))),
    SNAP: ((), ()),
    BEAT: ((), ()),
    FRAME: ((0,), (PLACES,)),
    DELIVER: ((0, 0), (FOUR, PLACES)),
    BURST: ((0, 0, 0), (FOUR, PLACES, PLACES)),
    BACK: ((0, 0, 0), (FOUR, PLACES, PLACES)),
    VIEW: ((0,), (FOUR,)),
    MEMBER: ((0,), (FOUR,)),
    BOOK: ((0,), (FOUR,)),
    TOP: ((0, 0), (FOUR, FOUR)),
    AT: ((0,), ((0, 199),)),
    DECODE: ((0,), ()),
    JOIN: ((0,), (FOUR,)),
    DRAIN: ((0, 0), (FOUR, (0, 1000))),
    SLOW: ((0,), (FOUR,)),
    PENDING: ((0,), (FOUR,)),
    FEED: ((0,), ()),
    RESET: ((), ()),
    CRASH: ((0,), (FOUR,)),
    STATE: ((), ()),
}
WITHOUT_HOUSE = (OPEN, DECODE, FEED, RESET)


def flat(calls):
    return [number for call in calls for number in call]


def ask(*calls):
    """The answers, one list for each call."""
    told = answers(flat(calls))
    parts = []
    while told:
        count = told[0]
        parts.append(told[1:1 + count])
        if count < 1 or len(parts[-1]) != count:
            raise AssertionError(f"an answer of {count} numbers is not there whole")
        told = told[1 + count:]
    if len(parts) != len(calls):
        raise AssertionError(f"{len(calls)} calls, but {len(parts)} answers")
    return parts


def last(*calls):
    return ask(*calls)[-1]


def sets(count, first=1):
    """So many changes of one level, each to another amount."""
    return [(SET, 0, 0, 5, amount) for amount in range(first, first + count)]


def dump_calls(books, members, frames):
    """Calls that change nothing and tell all that can be told of such a house, and of the reader."""
    calls = [(STATE,), feed([])] + [(BOOK, book) for book in range(books)]
    for member in range(members):
        calls += [(MEMBER, member), (VIEW, member), (TOP, member, 0), (SLOW, member), (PENDING, member)]
    return calls + [(FRAME, place) for place in range(frames + 1)]


def decode(octets):
    return (DECODE, len(octets), *octets)


def feed(octets):
    return (FEED, len(octets), *octets)


def checked(body):
    """The bytes with their check behind them."""
    total = 0
    for index in range(len(body)):
        total += (index + 1) * body[index]
    return [*body, total // 256 % 256, total % 256]


def framed(octets):
    """The bytes as they stand in a stream, with how many they are before them."""
    return [len(octets) // 256, len(octets) % 256, *octets]


def row(answer, start=1):
    """The row that stands at the answer's end."""
    count = answer[start]
    numbers = answer[start + 1:]
    if len(numbers) != count:
        raise AssertionError(f"a row told with {count} numbers has {len(numbers)}")
    return numbers


def octets_of(*calls):
    """The bytes of the frame that the last of the calls, frame, tells."""
    answer = last(*calls)
    if answer[0] != 0:
        raise AssertionError(f"refused: {answer}")
    return row(answer)


def read_number(octets, at):
    number, shift = 0, 0
    while octets[at] >= 128:
        number |= (octets[at] & 127) << shift
        shift += 7
        at += 1
    return number | octets[at] << shift, at + 1


def read_frame(octets):
    """Kind, number and entries (book, side, price, amount) of bytes that are a frame's."""
    body = octets[:-2]
    if octets != checked(body):
        raise AssertionError(f"the check {octets[-2:]} is not that of the bytes")
    kind, number = body[0], int.from_bytes(bytes(body[1:5]), "big")
    at, count = {1: (5, 1), 2: (6, body[5] if kind == 2 else 0), 3: (5, 0)}[kind]
    entries = []
    for _ in range(count):
        first = body[at]
        doubled, at = read_number(body, at + 1)
        amount, at = read_number(body, at)
        price = doubled // 2 if doubled % 2 == 0 else -(doubled + 1) // 2
        entries.append((first // 2, first % 2, price, amount))
    if at != len(body):
        raise AssertionError("bytes stand behind the last entry")
    return kind, number, entries
