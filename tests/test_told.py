import unittest

from tests.helper import AT, BEAT, BOOK, BURST, CRASH, DELIVER, JOIN, MEMBER, OPEN, SET, SNAP, STATE, TOP, VIEW
from tests.helper import ask, last, sets

MIXED = [(1, 1, 3, 1), (0, 1, -5, 2), (1, 0, 3, 3), (0, 0, 9, 4)]
MIXED += [(0, 1, 7, 5), (0, 0, -9, 6), (1, 0, -4, 7), (0, 0, 0, 8)]
LINE = [(OPEN, 3, 2), *[(SET, *level) for level in MIXED], (SNAP,)]


class View(unittest.TestCase):
    def test_levels_by_book_side_and_price(self):
        levels = [number for level in sorted(MIXED) for number in level]
        self.assertEqual(last(*LINE, (BURST, 0, 0, 7), (VIEW, 0)), [0, 8, 32, *levels])
        self.assertEqual(last(*LINE, (DELIVER, 1, 8), (VIEW, 1)), [0, 8, 32, *levels])

    def test_written_out(self):
        line = [(OPEN, 2, 1), (SET, 1, 0, -1, 3), (SET, 0, 1, 2, 4), (SET, 0, 1, -2, 5), (SET, 0, 0, 8, 6)]
        told = last(*line, (BURST, 0, 0, 3), (VIEW, 0))
        self.assertEqual(told, [0, 4, 16, 0, 0, 8, 6, 0, 1, -2, 5, 0, 1, 2, 4, 1, 0, -1, 3])

    def test_is_the_members_not_the_houses(self):
        self.assertEqual(last(*LINE, (BURST, 0, 0, 1), (VIEW, 0)), [0, 2, 8, 0, 1, -5, 2, 1, 1, 3, 1])
        self.assertEqual(last(*LINE, (VIEW, 0)), [0, 0, 0])

    def test_taken_away_level_is_not_told(self):
        told = last((OPEN, 1, 1), (SET, 0, 0, 1, 1), (SET, 0, 0, 1, 0), (BURST, 0, 0, 1), (VIEW, 0))
        self.assertEqual(told, [0, 2, 0])

    def test_waiting(self):
        line = [(OPEN, 1, 2), *sets(10), (BURST, 0, 1, 9)]
        self.assertEqual(ask(*line, (VIEW, 0), (VIEW, 1))[-2:], [[-8], [0, 0, 0]])


class Member(unittest.TestCase):
    def test_live(self):
        line = [(OPEN, 1, 2), *sets(6), (BEAT,)]
        self.assertEqual(last(*line, (MEMBER, 0)), [0, 0, 0, 0, 0])
        self.assertEqual(last(*line, (BURST, 1, 0, 1), (DELIVER, 1, 4), (MEMBER, 1)), [0, 2, 5, 0, 1, 5])
        self.assertEqual(last(*line, (BURST, 1, 0, 1), (DELIVER, 1, 6), (MEMBER, 1)), [0, 2, 6, 0, 0])

    def test_waiting(self):
        line = [(OPEN, 1, 1), *sets(10), (BURST, 0, 1, 9), (MEMBER, 0)]
        self.assertEqual(last(*line), [0, -1, 10, 0, 8, 3, 4, 5, 6, 7, 8, 9, 10])

    def test_slow(self):
        line = [(OPEN, 1, 2), *sets(3), (JOIN, 1), (DELIVER, 1, 0), (DELIVER, 1, 2)]
        self.assertEqual(ask(*line, (MEMBER, 0), (MEMBER, 1))[-2:], [[0, 0, 0, 0, 0], [0, 1, 3, 1, 1, 3]])

    def test_slow_and_waiting(self):
        line = [(OPEN, 1, 1), (JOIN, 0), *sets(10), (BURST, 0, 1, 9), (MEMBER, 0)]
        self.assertEqual(last(*line), [0, -1, 10, 1, 8, 3, 4, 5, 6, 7, 8, 9, 10])

    def test_crashed(self):
        line = [(OPEN, 1, 1), (JOIN, 0), *sets(4), (DELIVER, 0, 0), (DELIVER, 0, 3), (CRASH, 0), (MEMBER, 0)]
        self.assertEqual(last(*line), [0, -1, 0, 0, 0])


class Book(unittest.TestCase):
    def test_buys_fall_and_sells_rise(self):
        self.assertEqual(last(*LINE, (BOOK, 0)), [0, 4, 7, 5, -5, 2, 6, -9, 6, 0, 8, 9, 4])
        self.assertEqual(last(*LINE, (BOOK, 1)), [0, 2, 3, 1, 4, -4, 7, 3, 3])

    def test_no_level(self):
        self.assertEqual(last(*LINE, (BOOK, 2)), [0, 0, 0])

    def test_one_side_alone(self):
        self.assertEqual(last((OPEN, 1, 1), (SET, 0, 1, 1, 5), (SET, 0, 1, 2, 6), (BOOK, 0)), [0, 4, 2, 6, 1, 5, 0])
        self.assertEqual(last((OPEN, 1, 1), (SET, 0, 0, 2, 6), (SET, 0, 0, 1, 5), (BOOK, 0)), [0, 0, 4, 1, 5, 2, 6])

    def test_is_the_houses_not_a_members(self):
        self.assertEqual(ask(*LINE, (BOOK, 1), (BURST, 0, 0, 1), (BOOK, 1))[-3::2], [[0, 2, 3, 1, 4, -4, 7, 3, 3]] * 2)


class Top(unittest.TestCase):
    # The member 0 has seen all, the member 1 the first two changes.
    SEEN = LINE + [(BURST, 0, 0, 7), (BURST, 1, 0, 1)]

    def test_several_of_each(self):
        self.assertEqual(last(*self.SEEN, (TOP, 0, 0)), [0, 7, 5, -9, 6])
        self.assertEqual(last(*self.SEEN, (TOP, 0, 1)), [0, 3, 1, -4, 7])

    def test_none_at_all(self):
        self.assertEqual(last(*self.SEEN, (TOP, 0, 2)), [0, 0, 0, 0, 0])
        self.assertEqual(last((OPEN, 1, 1), (TOP, 0, 0)), [0, 0, 0, 0, 0])

    def test_none_that_sells(self):
        self.assertEqual(last(*self.SEEN, (TOP, 1, 0)), [0, -5, 2, 0, 0])
        line = [(OPEN, 1, 1), (SET, 0, 1, -8, 1), (SET, 0, 1, -3, 2), (SET, 0, 1, -5, 3), (BURST, 0, 0, 2)]
        self.assertEqual(last(*line, (TOP, 0, 0)), [0, -3, 2, 0, 0])

    def test_none_that_buys(self):
        line = [(OPEN, 1, 1), (SET, 0, 0, 8, 1), (SET, 0, 0, 3, 2), (SET, 0, 0, 5, 3), (BURST, 0, 0, 2)]
        self.assertEqual(last(*line, (TOP, 0, 0)), [0, 0, 0, 3, 2])

    def test_price_of_nought(self):
        line = [(OPEN, 1, 1), (SET, 0, 0, 0, 4), (SET, 0, 1, 0, 5), (BURST, 0, 0, 1)]
        self.assertEqual(last(*line, (TOP, 0, 0)), [0, 0, 5, 0, 4])

    def test_levels_of_other_books(self):
        line = [(OPEN, 3, 1), (SET, 0, 1, 9, 1), (SET, 2, 1, 8, 2), (SET, 0, 0, -9, 3), (SET, 2, 0, -8, 4)]
        told = ask(*line, (BURST, 0, 0, 3), (TOP, 0, 0), (TOP, 0, 1), (TOP, 0, 2))
        self.assertEqual(told[-3:], [[0, 9, 1, -9, 3], [0, 0, 0, 0, 0], [0, 8, 2, -8, 4]])

    def test_is_the_members_not_the_houses(self):
        line = [(OPEN, 1, 2), (SET, 0, 1, 1, 1), (SET, 0, 1, 2, 2), (SET, 0, 1, 2, 0), (BURST, 0, 0, 1)]
        self.assertEqual(ask(*line, (TOP, 0, 0), (TOP, 1, 0))[-2:], [[0, 2, 2, 0, 0], [0, 0, 0, 0, 0]])
        self.assertEqual(last(*line, (DELIVER, 0, 2), (TOP, 0, 0)), [0, 1, 1, 0, 0])

    def test_waiting(self):
        line = [(OPEN, 1, 2), *sets(10), (BURST, 0, 1, 9)]
        self.assertEqual(ask(*line, (TOP, 0, 0), (TOP, 1, 0))[-2:], [[-8], [0, 0, 0, 0, 0]])


class At(unittest.TestCase):
    CHANGES = [(SET, 1, 0, 3, 5), (SET, 0, 1, -2, 6), (SET, 1, 0, 3, 7), (SET, 0, 1, -2, 0), (SET, 0, 0, 9, 8)]
    LEVELS = [[], [1, 0, 3, 5], [0, 1, -2, 6, 1, 0, 3, 5], [0, 1, -2, 6, 1, 0, 3, 7], [1, 0, 3, 7],
              [0, 0, 9, 8, 1, 0, 3, 7]]

    def test_each_number(self):
        told = ask((OPEN, 2, 1), *self.CHANGES, *[(AT, count) for count in range(7)])[6:]
        self.assertEqual(told, [[0, len(levels), *levels] for levels in self.LEVELS] + [[-4]])

    def test_without_changes(self):
        self.assertEqual(ask((OPEN, 1, 1), (AT, 0), (AT, 1), (AT, 199), (AT, 200))[1:], [[0, 0], [-4], [-4], [-1]])

    def test_frames_and_refused_sets_are_not_counted(self):
        line = [(OPEN, 1, 1), (SNAP,), *sets(2), (SET, 0, 0, 5, 2), (BEAT,), (AT, 2), (AT, 3)]
        self.assertEqual(ask(*line)[-2:], [[0, 4, 0, 0, 5, 2], [-4]])

    def test_120_changes(self):
        told = ask((OPEN, 1, 1), *sets(120), (AT, 0), (AT, 60), (AT, 119), (AT, 120), (AT, 121), (AT, 199))[121:]
        self.assertEqual(told, [[0, 0], [0, 4, 0, 0, 5, 60], [0, 4, 0, 0, 5, 119], [0, 4, 0, 0, 5, 120], [-4], [-4]])

    def test_house_stays_as_it_is(self):
        told = ask((OPEN, 2, 1), *self.CHANGES, (STATE,), (AT, 1), (STATE,), (AT, 5))
        self.assertEqual(told[6], told[8])
        self.assertEqual(told[9], [0, 8, *self.LEVELS[5]])

    def test_open_anew(self):
        self.assertEqual(ask((OPEN, 2, 1), *self.CHANGES, (OPEN, 2, 1), (AT, 0), (AT, 1))[-2:], [[0, 0], [-4]])


class State(unittest.TestCase):
    def test_at_first(self):
        self.assertEqual(last((OPEN, 3, 2), (STATE,)), [0, 3, 0, 0, 0, 2, 0, 0])
        self.assertEqual(last((OPEN, 1, 4), (STATE,)), [0, 1, 0, 0, 0, 4, 0, 0, 0, 0])

    def test_behind_changes(self):
        levels = [number for level in sorted(MIXED) for number in level]
        told = ask(*LINE, (STATE,), (BURST, 1, 0, 4), (STATE,))
        self.assertEqual(told[-3], [0, 3, 8, 9, 32, *levels, 2, 0, 0])
        self.assertEqual(told[-1], [0, 3, 8, 9, 32, *levels, 2, 0, 5])

    def test_taken_away_level_and_refused_set(self):
        line = [(OPEN, 1, 1), (SET, 0, 0, 1, 1), (SET, 0, 0, 1, 0), (SET, 0, 0, 1, 0), (STATE,)]
        self.assertEqual(last(*line), [0, 1, 2, 2, 0, 1, 0])

    def test_snapshots_and_beats_are_frames_alone(self):
        self.assertEqual(last((OPEN, 1, 1), *sets(2), (SNAP,), (BEAT,), (STATE,)), [0, 1, 2, 4, 4, 0, 0, 5, 2, 1, 0])

    def test_waiting_members(self):
        line = [(OPEN, 1, 4), *sets(10), (BURST, 1, 1, 9), (BURST, 2, 0, 9), (CRASH, 3), (STATE,)]
        self.assertEqual(last(*line), [0, 1, 10, 10, 4, 0, 0, 5, 10, 4, 0, -1, 10, -1])

    def test_slow_member_has_its_number(self):
        line = [(OPEN, 1, 2), *sets(3), (BURST, 1, 0, 1), (JOIN, 1), (STATE,)]
        self.assertEqual(last(*line), [0, 1, 3, 3, 4, 0, 0, 5, 3, 2, 0, 2])


if __name__ == "__main__":
    unittest.main()
