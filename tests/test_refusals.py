import unittest

from tests.helper import AT, BACK, BEAT, BOOK, BURST, CALLS, CRASH, DECODE, DELIVER, DRAIN, FEED, FRAME, JOIN, MEMBER
from tests.helper import OPEN, PENDING, RESET, SET, SLOW, SNAP, STATE, TOP, VIEW, WITHOUT_HOUSE
from tests.helper import ask, decode, dump_calls, feed, last

FAR = 10 ** 18

# A house whose member 0 is at number 2, whose member 1 waits, and whose member 2 keeps a change and is slow;
# three bytes wait in the reader.
SMALL = [(OPEN, 2, 3)]
SMALL += [(SET, 1, 1, 50 - amount, amount) for amount in range(1, 12)]
SMALL += [(SNAP,), (BEAT,), (BURST, 0, 0, 1), (BACK, 1, 1, 10), (DELIVER, 2, 4)]
SMALL += [(JOIN, 2), (DRAIN, 2, 4), feed([0, 7, 3])]
SMALL_FRAMES = 13


def with_number(call, position, number):
    numbers = list(CALLS[call][0])
    numbers[position] = number
    return (call, *numbers)


def each_bound():
    """Call and position of each number, with the least and the greatest of its range."""
    for call, (numbers, ranges) in CALLS.items():
        for position, (least, greatest) in enumerate(ranges):
            yield call, position, least, greatest


class Ranges(unittest.TestCase):
    def test_first_outside_is_refused(self):
        for call, position, least, greatest in each_bound():
            for number in (least - 1, greatest + 1, -FAR, FAR):
                asked = with_number(call, position, number)
                with self.subTest(call=asked):
                    self.assertEqual(last((OPEN, 4, 4), (BEAT,), asked), [-1])

    def test_last_within_is_not(self):
        for call, position, least, greatest in each_bound():
            for number in (least, greatest):
                asked = with_number(call, position, number)
                with self.subTest(call=asked):
                    self.assertNotEqual(last((OPEN, 4, 4), (BEAT,), asked), [-1])

    def test_set_takes_each_bound(self):
        for numbers in ((0, 0, -1000000, 1), (3, 1, 1000000, 1000000000)):
            self.assertEqual(last((OPEN, 4, 1), (SET, *numbers)), [0, 1, 0])
        self.assertEqual(last((OPEN, 1, 1), (SET, 0, 0, 1, 5), (SET, 0, 0, 1, 0)), [0, 2, 1])


class WithoutHouse(unittest.TestCase):
    def test_all_but_four_are_refused(self):
        self.assertEqual(sorted(CALLS), list(range(22)))
        for call, (numbers, ranges) in CALLS.items():
            with self.subTest(call=call):
                if call in WITHOUT_HOUSE:
                    self.assertEqual(last((call, *numbers))[0], 0)
                else:
                    self.assertEqual(last((call, *numbers)), [-2])

    def test_bytes_and_reset_need_none(self):
        told = ask((DECODE, 0), (FEED, 0), (RESET,), feed([0, 0]), decode([3, 0, 0, 0, 0, 0, 3]))
        self.assertEqual(told, [[0, 1], [0, 0, 0, 0], [0], [0, 0, 0, 3, 1, 0, 0], [0, 0, 3, 0, 0]])

    def test_bytes_out_of_range(self):
        self.assertEqual(ask(decode([256]), feed([-1]), (FEED, 0)), [[-1], [-1], [0, 0, 0, 0]])

    def test_out_of_range_comes_first(self):
        for call, position, least, greatest in each_bound():
            with self.subTest(call=call, position=position):
                self.assertEqual(last(with_number(call, position, greatest + 1)), [-1])
                self.assertEqual(last(with_number(call, position, least - 1)), [-1])

    def test_comes_before_what_is_told_with_the_call(self):
        for asked in ((SET, 3, 0, 0, 0), (FRAME, 199), (BURST, 3, 5, 4), (BACK, 0, 5, 4), (DELIVER, 0, 199),
                      (TOP, 3, 3), (AT, 199), (JOIN, 3), (DRAIN, 3, 1000), (SLOW, 0), (PENDING, 3), (CRASH, 3)):
            self.assertEqual(last(asked), [-2])

    def test_refused_open_opens_nothing(self):
        self.assertEqual(ask((OPEN, 0, 1), (OPEN, 1, 5), (BEAT,)), [[-1], [-1], [-2]])


class ToldWithTheCalls(unittest.TestCase):
    def refused(self, refusal, *numbers):
        with self.subTest(call=numbers):
            self.assertEqual(last(*SMALL, numbers), [refusal])

    def test_no_such_book(self):
        for book in (2, 3):
            self.refused(-3, SET, book, 0, 0, 1)
            self.refused(-3, BOOK, book)
        self.assertEqual(last(*SMALL, (SET, 1, 0, 0, 1))[0], 0)
        self.assertEqual(last(*SMALL, (BOOK, 1))[0], 0)

    def test_no_such_member(self):
        self.refused(-3, DELIVER, 3, 0)
        self.refused(-3, BURST, 3, 0, 1)
        self.refused(-3, BACK, 3, 0, 1)
        self.refused(-3, VIEW, 3)
        self.refused(-3, MEMBER, 3)
        for call in (JOIN, SLOW, PENDING, CRASH):
            self.refused(-3, call, 3)
        self.refused(-3, DRAIN, 3, 1)
        self.refused(-3, TOP, 3, 0)
        for asked in ((DELIVER, 2, 0), (BURST, 2, 0, 1), (BACK, 2, 0, 1), (VIEW, 2), (MEMBER, 2), (TOP, 2, 0),
                      (DRAIN, 2, 1), (SLOW, 2), (PENDING, 2), (CRASH, 2), (JOIN, 0)):
            self.assertEqual(last(*SMALL, asked)[0], 0)

    def test_top(self):
        self.refused(-3, TOP, 3, 3)
        self.refused(-3, TOP, 3, 2)
        self.refused(-3, TOP, 0, 2)
        self.refused(-3, TOP, 1, 2)
        self.refused(-8, TOP, 1, 1)
        self.refused(-1, TOP, 3, 4)
        self.refused(-1, TOP, 4, 3)
        self.assertEqual(last(*SMALL, (TOP, 0, 1)), [0, 49, 1, 0, 0])

    def test_fewer_changes(self):
        for count in (12, 13, 199):
            self.refused(-4, AT, count)
        self.assertEqual(last(*SMALL, (AT, 11))[0], 0)

    def test_slow_ones(self):
        self.refused(-8, JOIN, 2)
        for member in (0, 1):
            self.refused(-8, DRAIN, member, 1)
            self.refused(-8, SLOW, member)
            self.refused(-8, PENDING, member)
            self.assertEqual(last(*SMALL, (JOIN, member))[0], 0)

    def test_books_and_members_are_not_mixed_up(self):
        self.assertEqual(last((OPEN, 1, 4), (BOOK, 3)), [-3])
        self.assertEqual(last((OPEN, 1, 4), (SET, 3, 0, 0, 1)), [-3])
        self.assertEqual(last((OPEN, 4, 1), (VIEW, 3)), [-3])
        self.assertEqual(last((OPEN, 4, 1), (MEMBER, 3)), [-3])
        self.assertEqual(last((OPEN, 4, 1), (BEAT,), (DELIVER, 3, 0)), [-3])
        self.assertEqual(ask((OPEN, 1, 4), (TOP, 3, 0), (TOP, 0, 3))[1:], [[0, 0, 0, 0, 0], [-3]])
        self.assertEqual(ask((OPEN, 4, 1), (TOP, 0, 3), (TOP, 3, 0))[1:], [[0, 0, 0, 0, 0], [-3]])
        self.assertEqual(ask((OPEN, 1, 4), (JOIN, 3), (OPEN, 4, 1), (JOIN, 3))[1::2], [[0, 0], [-3]])
        self.assertEqual(ask((OPEN, 1, 4), (CRASH, 3), (OPEN, 4, 1), (CRASH, 3))[1::2], [[0], [-3]])

    def test_no_such_frame(self):
        for place in (SMALL_FRAMES, 199):
            self.refused(-4, FRAME, place)
            self.refused(-4, DELIVER, 0, place)
            self.refused(-4, BURST, 0, 0, place)
            self.refused(-4, BACK, 0, 0, place)
        top = SMALL_FRAMES - 1
        for asked in ((FRAME, top), (DELIVER, 0, top), (BURST, 0, 0, top), (BACK, 0, 0, top)):
            self.assertEqual(last(*SMALL, asked)[0], 0)

    def test_last_place_below_the_first(self):
        self.refused(-4, BURST, 0, 1, 0)
        self.refused(-4, BACK, 0, 1, 0)
        self.refused(-4, BURST, 0, 199, 0)
        self.refused(-4, BACK, 0, 199, 0)

    def test_no_member_comes_before_no_frame(self):
        self.refused(-3, DELIVER, 3, 199)
        self.refused(-3, BURST, 3, 1, 0)
        self.refused(-3, BACK, 3, 0, 199)

    def test_waiting_member_has_no_view(self):
        self.refused(-8, VIEW, 1)

    def test_out_of_range_comes_first(self):
        self.refused(-1, SET, 3, 2, 0, 1)
        self.refused(-1, DELIVER, 3, 200)
        self.refused(-1, BURST, 3, 1, -1)
        self.refused(-1, BACK, 3, 200, 0)
        self.refused(-1, AT, 200)
        self.refused(-1, DRAIN, 3, 1001)
        self.refused(-1, DRAIN, 0, -1)
        for call in (JOIN, SLOW, PENDING, CRASH):
            self.refused(-1, call, 4)


class NothingIsChanged(unittest.TestCase):
    """All that can be told is told alike before a refusal and behind it."""

    REFUSED = (
        (OPEN, 0, 1), (OPEN, 1, 5),
        (SET, 4, 0, 0, 1), (SET, 0, 0, 0, -1), (SET, 2, 0, 0, 1), (SET, 1, 1, 49, 1), (SET, 0, 0, 0, 0),
        (FRAME, 199), (FRAME, 200),
        (DELIVER, 3, 4), (DELIVER, 0, 199), (DELIVER, 0, 200),
        (BURST, 3, 2, 3), (BURST, 0, 2, 13), (BURST, 0, 3, 2), (BURST, 0, -1, 3),
        (BACK, 3, 2, 3), (BACK, 0, 2, 13), (BACK, 0, 3, 2), (BACK, 0, -1, 3),
        (VIEW, 1), (VIEW, 3), (VIEW, 4), (MEMBER, 3), (MEMBER, -1), (BOOK, 2), (BOOK, 4),
        (TOP, 3, 0), (TOP, 0, 2), (TOP, 1, 0), (TOP, 0, 4), (AT, 12), (AT, 200), decode([256]), decode([0] * 7 + [-1]),
        (JOIN, 2), (JOIN, 3), (JOIN, 4), (DRAIN, 0, 1), (DRAIN, 3, 1), (DRAIN, 2, 1001), (DRAIN, 2, -1),
        (SLOW, 0), (SLOW, 3), (SLOW, 4), (PENDING, 1), (PENDING, 3), (PENDING, -1),
        feed([0, 0, 0, 0, 0, 3, 256]), feed([-1]), (CRASH, 3), (CRASH, 4), (CRASH, -1),
    )

    def test_all_refusals(self):
        dump = dump_calls(2, 3, SMALL_FRAMES)
        before = ask(*SMALL, *dump)[len(SMALL):]
        self.assertEqual(before[:2], [last(*SMALL, (STATE,)), [0, 0, 3, 0]])
        self.assertIn([0, 21, *[number for price in range(43, 50) for number in (1, 1, price)]], before)
        for refused in self.REFUSED:
            with self.subTest(call=refused):
                told = ask(*SMALL, refused, *dump, (SET, 0, 0, 0, 5))
                self.assertLess(told[len(SMALL)][0], 0)
                self.assertEqual(told[len(SMALL) + 1:-1], before)
                self.assertEqual(told[-1], [0, 12, SMALL_FRAMES])

    def test_full_ones(self):
        line = [(OPEN, 1, 1), (SET, 0, 0, 0, 1)] + [(BEAT,)] * 159
        told = ask(*line, (SET, 0, 0, 0, 2), (SNAP,), (BEAT,), (FRAME, 160), (BOOK, 0), (DELIVER, 0, 159), (MEMBER, 0))
        self.assertEqual(told[len(line):], [[-5], [-5], [-5], [-4], [0, 0, 2, 0, 1], [0, 0, 0, 0], [0, 0, 1, 0, 0]])

    def test_forty_levels(self):
        line = [(OPEN, 1, 1)] + [(SET, 0, 0, price, 1) for price in range(40)]
        told = ask(*line, (SET, 0, 0, 40, 1), (FRAME, 40), (BOOK, 0), (SET, 0, 0, 0, 2))
        self.assertEqual(told[len(line):len(line) + 2], [[-6], [-4]])
        self.assertEqual(len(told[-2]), 3 + 80)
        self.assertEqual(told[-1], [0, 41, 40])


if __name__ == "__main__":
    unittest.main()
