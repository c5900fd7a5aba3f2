import unittest

from bookfeed.calls import Desk, answer
from tests.helper import BEAT, BOOK, BURST, DELIVER, MEMBER, OPEN, SET, SNAP, VIEW
from tests.helper import ask, last, sets

MIXED = [(1, 1, 3, 1), (0, 1, -5, 2), (1, 0, 3, 3), (0, 0, 9, 4)]
MIXED += [(0, 1, 7, 5), (0, 0, -9, 6), (1, 0, -4, 7), (0, 0, 0, 8)]
LINE = [(OPEN, 3, 2), *[(SET, *level) for level in MIXED], (SNAP,)]


class View(unittest.TestCase):
    def test_levels_by_book_side_and_price(self):
        levels = [number for level in sorted(MIXED) for number in level]
        self.assertEqual(last(*LINE, (BURST, 0, 0, 7), (VIEW, 0)), [0, 8, 32, *levels])
        self.assertEqual(last(*LINE, (DELIVER, 1, 8), (VIEW, 1)), [0, 8, 32, *levels])

    def test_written_out(self):
        line = [(OPEN, 2, 1), (SET, 1, 0, -1, 3), (SET, 0, 1, 2, 4), (SET, 0, 1, -2, 5), (SET, 0, 0, 8, 6)]
        told = last(*line, (BURST, 0, 0, 3), (VIEW, 0))
        self.assertEqual(told, [0, 4, 16, 0, 0, 8, 6, 0, 1, -2, 5, 0, 1, 2, 4, 1, 0, -1, 3])

    def test_is_the_members_not_the_houses(self):
        self.assertEqual(last(*LINE, (BURST, 0, 0, 1), (VIEW, 0)), [0, 2, 8, 0, 1, -5, 2, 1, 1, 3, 1])
        self.assertEqual(last(*LINE, (VIEW, 0)), [0, 0, 0])

    def test_taken_away_level_is_not_told(self):
        told = last((OPEN, 1, 1), (SET, 0, 0, 1, 1), (SET, 0, 0, 1, 0), (BURST, 0, 0, 1), (VIEW, 0))
        self.assertEqual(told, [0, 2, 0])

    def test_waiting(self):
        line = [(OPEN, 1, 2), *sets(10), (BURST, 0, 1, 9)]
        self.assertEqual(ask(*line, (VIEW, 0), (VIEW, 1))[-2:], [[-8], [0, 0, 0]])


class Member(unittest.TestCase):
    def test_live(self):
        line = [(OPEN, 1, 2), *sets(6), (BEAT,)]
        self.assertEqual(last(*line, (MEMBER, 0)), [0, 0, 0, 0, 0])
        self.assertEqual(last(*line, (BURST, 1, 0, 1), (DELIVER, 1, 4), (MEMBER, 1)), [0, 2, 5, 0, 1, 5])
        self.assertEqual(last(*line, (BURST, 1, 0, 1), (DELIVER, 1, 6), (MEMBER, 1)), [0, 2, 6, 0, 0])

    def test_waiting(self):
        line = [(OPEN, 1, 1), *sets(10), (BURST, 0, 1, 9), (MEMBER, 0)]
        self.assertEqual(last(*line), [0, -1, 10, 0, 8, 3, 4, 5, 6, 7, 8, 9, 10])

    def test_slow(self):
        desk = Desk()
        answer(desk, OPEN, [1, 2])
        desk.house.members[1].slow = True
        self.assertEqual(answer(desk, MEMBER, [0]), [0, 0, 0, 0, 0])
        self.assertEqual(answer(desk, MEMBER, [1]), [0, 0, 0, 1, 0])


class Book(unittest.TestCase):
    def test_buys_fall_and_sells_rise(self):
        self.assertEqual(last(*LINE, (BOOK, 0)), [0, 4, 7, 5, -5, 2, 6, -9, 6, 0, 8, 9, 4])
        self.assertEqual(last(*LINE, (BOOK, 1)), [0, 2, 3, 1, 4, -4, 7, 3, 3])

    def test_no_level(self):
        self.assertEqual(last(*LINE, (BOOK, 2)), [0, 0, 0])

    def test_one_side_alone(self):
        self.assertEqual(last((OPEN, 1, 1), (SET, 0, 1, 1, 5), (SET, 0, 1, 2, 6), (BOOK, 0)), [0, 4, 2, 6, 1, 5, 0])
        self.assertEqual(last((OPEN, 1, 1), (SET, 0, 0, 2, 6), (SET, 0, 0, 1, 5), (BOOK, 0)), [0, 0, 4, 1, 5, 2, 6])

    def test_is_the_houses_not_a_members(self):
        self.assertEqual(ask(*LINE, (BOOK, 1), (BURST, 0, 0, 1), (BOOK, 1))[-3::2], [[0, 2, 3, 1, 4, -4, 7, 3, 3]] * 2)


if __name__ == "__main__":
    unittest.main()
