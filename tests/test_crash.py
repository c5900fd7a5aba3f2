"""Crash: of a live, a waiting and a slow member, and what comes to it later."""

import unittest

from tests.helper import BEAT, BURST, CRASH, DELIVER, DRAIN, JOIN, MEMBER, OPEN, PENDING, SET, SLOW, SNAP, STATE
from tests.helper import TOP, VIEW
from tests.helper import ask, last, sets

# Changes 1 to 12 of one level at the places 0 to 11, then a snapshot and a beat.
LINE = [(OPEN, 1, 2), *sets(12), (SNAP,), (BEAT,)]
CRASHED = [0, -1, 0, 0, 0]


def behind(*calls):
    return ask(*LINE, *calls)[len(LINE):]


class Crash(unittest.TestCase):
    def test_live_member(self):
        told = behind((BURST, 0, 0, 2), (DELIVER, 0, 5), (CRASH, 0), (MEMBER, 0), (VIEW, 0), (TOP, 0, 0))
        self.assertEqual(told[2:], [[0], CRASHED, [-8], [-8]])

    def test_member_as_it_is_at_first(self):
        self.assertEqual(behind((CRASH, 0), (MEMBER, 0), (VIEW, 0)), [[0], CRASHED, [-8]])

    def test_waiting_member(self):
        told = behind((BURST, 0, 1, 9), (CRASH, 0), (MEMBER, 0), (VIEW, 0))
        self.assertEqual(told, [[0, -1, 8, 0], [0], CRASHED, [-8]])

    def test_slow_member(self):
        told = behind((JOIN, 0), (DRAIN, 0, 1), (SET, 0, 0, 6, 1), (CRASH, 0), (MEMBER, 0), (SLOW, 0), (PENDING, 0))
        self.assertEqual(told[3:], [[0], CRASHED, [-8], [-8]])

    def test_slow_member_joins_anew(self):
        told = behind((JOIN, 0), (DRAIN, 0, 1), (CRASH, 0), (SET, 0, 0, 6, 1), (JOIN, 0), (SLOW, 0), (PENDING, 0))
        self.assertEqual(told[4:], [[0, 2], [0, 0], [0, 6, 0, 0, 5, 0, 0, 6]])
        self.assertEqual(behind((JOIN, 0), (CRASH, 0), (JOIN, 0), (MEMBER, 0))[2:], [[0, 1], [0, -1, 0, 1, 0]])

    def test_twice(self):
        self.assertEqual(behind((CRASH, 0), (CRASH, 0), (MEMBER, 0)), [[0], [0], CRASHED])

    def test_other_members_and_the_house_stay(self):
        dump = [(MEMBER, 1), (VIEW, 1), (SLOW, 1), (PENDING, 1)]
        line = [(BURST, 1, 0, 3), (DELIVER, 1, 6), (JOIN, 1)]
        told = behind(*line, *dump, (CRASH, 0), *dump, (STATE,))
        self.assertEqual(told[3:7], told[8:12])
        self.assertEqual(told[12], [0, 1, 12, 14, 4, 0, 0, 5, 12, 2, -1, 4])

    def test_snapshot_comes_later(self):
        told = behind((BURST, 0, 0, 11), (CRASH, 0), (DELIVER, 0, 12), (MEMBER, 0), (VIEW, 0))
        self.assertEqual(told[2:], [[0, 12, 0, 0], [0, 12, 12, 0, 0], [0, 12, 4, 0, 0, 5, 12]])

    def test_older_snapshot_than_it_had_is_taken(self):
        line = [(OPEN, 1, 1), *sets(2), (SNAP,), *sets(2, first=3), (BURST, 0, 0, 4), (CRASH, 0)]
        self.assertEqual(ask(*line, (DELIVER, 0, 2), (VIEW, 0))[-2:], [[0, 2, 0, 0], [0, 2, 4, 0, 0, 5, 2]])

    def test_snapshot_with_number_nought_is_taken(self):
        told = ask((OPEN, 1, 1), (SNAP,), (CRASH, 0), (DELIVER, 0, 0), (MEMBER, 0), (VIEW, 0))
        self.assertEqual(told[3:], [[0, 0, 0, 0], [0, 0, 0, 0, 0], [0, 0, 0]])

    def test_changes_are_kept_until_a_snapshot(self):
        line = [(OPEN, 1, 1), *sets(3), (SNAP,), *sets(3, first=4), (CRASH, 0)]
        # The changes 1, 3, 4 and 6 come, then the snapshot with the number 3.
        line += [(DELIVER, 0, 0), (DELIVER, 0, 2), (DELIVER, 0, 4), (DELIVER, 0, 6), (MEMBER, 0)]
        self.assertEqual(ask(*line)[-5:], [[0, -1, 1, 0], [0, -1, 2, 0], [0, -1, 3, 0], [0, -1, 4, 0],
                                           [0, -1, 6, 0, 4, 1, 3, 4, 6]])
        self.assertEqual(ask(*line, (DELIVER, 0, 3), (MEMBER, 0))[-2:], [[0, 4, 1, 1], [0, 4, 6, 0, 1, 6]])

    def test_beat_is_only_heard(self):
        self.assertEqual(behind((CRASH, 0), (DELIVER, 0, 13), (MEMBER, 0))[1:], [[0, -1, 0, 0], [0, -1, 12, 0, 0]])

    def test_open_makes_it_live(self):
        self.assertEqual(last(*LINE, (CRASH, 0), (OPEN, 1, 1), (MEMBER, 0)), [0, 0, 0, 0, 0])


if __name__ == "__main__":
    unittest.main()
