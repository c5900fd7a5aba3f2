"""Slow members: join, drain, slow, pending, and what set does for them."""

import random
import unittest

from tests.helper import BEAT, BURST, CRASH, DELIVER, DRAIN, JOIN, MEMBER, OPEN, PENDING, SET, SLOW, SNAP, STATE, VIEW
from tests.helper import ask, last, row, sets

# Three levels, told in the order of their keys: (0, 0, 5), (0, 1, -5), (1, 0, 2).
THREE = [(OPEN, 2, 3), (SET, 1, 0, 2, 30), (SET, 0, 1, -5, 20), (SET, 0, 0, 5, 10)]
JOINED = THREE + [(JOIN, 1)]


def behind(line, *calls):
    return ask(*line, *calls)[len(line):]


class Join(unittest.TestCase):
    def test_levels_keys_are_pending_in_order(self):
        told = behind(THREE, (JOIN, 1), (PENDING, 1), (SLOW, 1), (MEMBER, 1))
        self.assertEqual(told, [[0, 3], [0, 9, 0, 0, 5, 0, 1, -5, 1, 0, 2], [0, 0], [0, 0, 0, 1, 0]])

    def test_without_levels(self):
        self.assertEqual(ask((OPEN, 1, 1), (JOIN, 0), (PENDING, 0), (SLOW, 0))[1:], [[0, 0], [0, 0], [0, 0]])

    def test_keys_without_levels_any_more_are_not_pending(self):
        told = behind(THREE, (SET, 0, 1, -5, 0), (JOIN, 0), (PENDING, 0))
        self.assertEqual(told[1:], [[0, 2], [0, 6, 0, 0, 5, 1, 0, 2]])

    def test_second_join(self):
        told = behind(JOINED, (DRAIN, 1, 1), (JOIN, 1), (PENDING, 1), (SLOW, 1))
        self.assertEqual(told[1:], [[-8], [0, 6, 0, 1, -5, 1, 0, 2], [0, 4, 0, 0, 5, 10]])

    def test_members_are_apart(self):
        told = behind(JOINED, (JOIN, 0), (DRAIN, 0, 1), (PENDING, 1), (PENDING, 0), (PENDING, 2))
        self.assertEqual(told, [[0, 3], [0, 2, 4, 0, 0, 5, 10], [0, 9, 0, 0, 5, 0, 1, -5, 1, 0, 2],
                                [0, 6, 0, 1, -5, 1, 0, 2], [-8]])

    def test_its_own_number_and_view_stay(self):
        told = behind(THREE, (BURST, 0, 0, 1), (JOIN, 0), (VIEW, 0), (DRAIN, 0, 3), (VIEW, 0), (MEMBER, 0))
        view = [0, 2, 8, 0, 1, -5, 20, 1, 0, 2, 30]
        self.assertEqual(told[2:3] + told[4:], [view, view, [0, 2, 2, 1, 0]])

    def test_waiting_member_joins(self):
        line = [(OPEN, 1, 1), *sets(10), (BURST, 0, 1, 9), (JOIN, 0), (DRAIN, 0, 5), (SLOW, 0), (MEMBER, 0)]
        self.assertEqual(ask(*line)[-4:], [[0, 1], [0, 0, 4, 0, 0, 5, 10], [0, 4, 0, 0, 5, 10],
                                           [0, -1, 10, 1, 8, 3, 4, 5, 6, 7, 8, 9, 10]])

    def test_frames_do_not_come_to_the_slow_view(self):
        told = behind(JOINED, (BURST, 1, 0, 2), (SLOW, 1), (PENDING, 1), (VIEW, 1))
        self.assertEqual(told[1:3], [[0, 0], [0, 9, 0, 0, 5, 0, 1, -5, 1, 0, 2]])
        self.assertEqual(told[3], [0, 3, 12, 0, 0, 5, 10, 0, 1, -5, 20, 1, 0, 2, 30])

    def test_stays_slow_when_it_waits_and_lives_again(self):
        line = [(OPEN, 1, 1), (JOIN, 0), *sets(10), (SNAP,), (BURST, 0, 1, 9)]
        told = behind(line, (MEMBER, 0), (DELIVER, 0, 10), (MEMBER, 0), (PENDING, 0))
        self.assertEqual(told, [[0, -1, 10, 1, 8, 3, 4, 5, 6, 7, 8, 9, 10], [0, 10, 0, 0], [0, 10, 10, 1, 0],
                                [0, 3, 0, 0, 5]])


class SetForSlowMembers(unittest.TestCase):
    def test_new_key_is_put_behind(self):
        told = behind(JOINED, (SET, 0, 0, -9, 1), (PENDING, 1))
        self.assertEqual(told, [[0, 4, 3], [0, 12, 0, 0, 5, 0, 1, -5, 1, 0, 2, 0, 0, -9]])

    def test_pending_key_keeps_its_place(self):
        told = behind(JOINED, (SET, 0, 0, 5, 11), (SET, 0, 1, -5, 0), (PENDING, 1), (DRAIN, 1, 3))
        self.assertEqual(told[2], [0, 9, 0, 0, 5, 0, 1, -5, 1, 0, 2])
        self.assertEqual(told[3], [0, 0, 12, 0, 0, 5, 11, 0, 1, -5, 0, 1, 0, 2, 30])

    def test_told_key_is_pending_again_behind_the_others(self):
        told = behind(JOINED, (DRAIN, 1, 1), (SET, 0, 0, 5, 12), (PENDING, 1), (SLOW, 1), (DRAIN, 1, 9), (SLOW, 1))
        self.assertEqual(told[2:4], [[0, 9, 0, 1, -5, 1, 0, 2, 0, 0, 5], [0, 4, 0, 0, 5, 10]])
        self.assertEqual(told[4], [0, 0, 12, 0, 1, -5, 20, 1, 0, 2, 30, 0, 0, 5, 12])
        self.assertEqual(told[5], [0, 12, 0, 0, 5, 12, 0, 1, -5, 20, 1, 0, 2, 30])

    def test_slow_members_and_others(self):
        line = THREE + [(JOIN, 2), (DRAIN, 2, 3), (JOIN, 0), (SET, 1, 1, 7, 4)]
        told = behind(line, *[(PENDING, member) for member in range(3)])
        self.assertEqual(told, [[0, 12, 0, 0, 5, 0, 1, -5, 1, 0, 2, 1, 1, 7], [-8], [0, 3, 1, 1, 7]])

    def test_key_pending_for_one_and_told_to_another(self):
        line = THREE + [(JOIN, 0), (JOIN, 1), (DRAIN, 1, 2), (SET, 0, 0, 5, 0)]
        told = behind(line, (PENDING, 0), (PENDING, 1))
        self.assertEqual(told, [[0, 9, 0, 0, 5, 0, 1, -5, 1, 0, 2], [0, 6, 1, 0, 2, 0, 0, 5]])

    def test_refused_set_puts_nothing(self):
        told = behind(JOINED, (DRAIN, 1, 3), (SET, 0, 0, 5, 10), (SET, 0, 0, 9, 0), (SET, 2, 0, 0, 1), (PENDING, 1))
        self.assertEqual(told[1:], [[-7], [-7], [-3], [0, 0]])

    def test_full_house_puts_nothing(self):
        line = [(OPEN, 1, 1), (JOIN, 0), *[(BEAT,)] * 160]
        self.assertEqual(behind(line, (SET, 0, 0, 1, 1), (PENDING, 0)), [[-5], [0, 0]])
        line = [(OPEN, 1, 1), *[(SET, 0, 0, price, 1) for price in range(40)], (JOIN, 0), (DRAIN, 0, 40)]
        self.assertEqual(behind(line, (SET, 0, 0, 40, 1), (PENDING, 0)), [[-6], [0, 0]])


class Drain(unittest.TestCase):
    def test_first_ones_in_their_order(self):
        told = behind(JOINED, (DRAIN, 1, 2), (SLOW, 1), (PENDING, 1), (DRAIN, 1, 1), (SLOW, 1), (PENDING, 1))
        self.assertEqual(told[:3], [[0, 1, 8, 0, 0, 5, 10, 0, 1, -5, 20], [0, 8, 0, 0, 5, 10, 0, 1, -5, 20],
                                    [0, 3, 1, 0, 2]])
        self.assertEqual(told[3:], [[0, 0, 4, 1, 0, 2, 30], [0, 12, 0, 0, 5, 10, 0, 1, -5, 20, 1, 0, 2, 30], [0, 0]])

    def test_none(self):
        self.assertEqual(behind(JOINED, (DRAIN, 1, 0), (PENDING, 1), (SLOW, 1)),
                         [[0, 3, 0], [0, 9, 0, 0, 5, 0, 1, -5, 1, 0, 2], [0, 0]])

    def test_as_many_as_are_pending_and_more(self):
        for count in (3, 4, 1000):
            told = behind(JOINED, (DRAIN, 1, count), (PENDING, 1), (DRAIN, 1, count))
            self.assertEqual(told, [[0, 0, 12, 0, 0, 5, 10, 0, 1, -5, 20, 1, 0, 2, 30], [0, 0], [0, 0, 0]])
        self.assertEqual(last(*JOINED, (DRAIN, 1, 1001)), [-1])

    def test_amount_is_the_houses_now(self):
        told = behind(JOINED, (SET, 0, 0, 5, 1), (SET, 0, 0, 5, 2), (SET, 0, 0, 5, 3), (DRAIN, 1, 1), (SLOW, 1))
        self.assertEqual(told[3:], [[0, 2, 4, 0, 0, 5, 3], [0, 4, 0, 0, 5, 3]])

    def test_amount_of_nought_takes_the_level_away(self):
        told = behind(JOINED, (DRAIN, 1, 3), (SET, 0, 1, -5, 0), (SLOW, 1), (DRAIN, 1, 1), (SLOW, 1), (PENDING, 1))
        self.assertEqual(told[2], [0, 12, 0, 0, 5, 10, 0, 1, -5, 20, 1, 0, 2, 30])
        self.assertEqual(told[3:], [[0, 0, 4, 0, 1, -5, 0], [0, 8, 0, 0, 5, 10, 1, 0, 2, 30], [0, 0]])

    def test_amount_of_nought_of_a_level_never_told(self):
        told = behind(JOINED, (SET, 1, 1, 8, 6), (SET, 1, 1, 8, 0), (DRAIN, 1, 4), (SLOW, 1))
        self.assertEqual(told[2], [0, 0, 16, 0, 0, 5, 10, 0, 1, -5, 20, 1, 0, 2, 30, 1, 1, 8, 0])
        self.assertEqual(told[3], [0, 12, 0, 0, 5, 10, 0, 1, -5, 20, 1, 0, 2, 30])

    def test_changes_stand_as_they_were_pending_but_the_view_in_order(self):
        line = [(OPEN, 2, 1), (JOIN, 0), (SET, 1, 0, 1, 1), (SET, 0, 1, 9, 2), (SET, 0, 0, 7, 3), (SET, 0, 0, -7, 4)]
        told = behind(line, (DRAIN, 0, 4), (SLOW, 0))
        self.assertEqual(told[0], [0, 0, 16, 1, 0, 1, 1, 0, 1, 9, 2, 0, 0, 7, 3, 0, 0, -7, 4])
        self.assertEqual(told[1], [0, 16, 0, 0, -7, 4, 0, 0, 7, 3, 0, 1, 9, 2, 1, 0, 1, 1])

    def test_house_and_member_are_not_changed(self):
        before = behind(JOINED, (STATE,), (MEMBER, 1), (VIEW, 1))
        self.assertEqual(behind(JOINED, (DRAIN, 1, 2), (STATE,), (MEMBER, 1), (VIEW, 1))[1:], before)

    def test_later_changes_leave_the_slow_view(self):
        told = behind(JOINED, (DRAIN, 1, 3), (SET, 0, 0, 5, 99), (SLOW, 1))
        self.assertEqual(told[2], [0, 12, 0, 0, 5, 10, 0, 1, -5, 20, 1, 0, 2, 30])


class NotSlow(unittest.TestCase):
    def test_member_that_never_joined(self):
        self.assertEqual(behind(JOINED, (DRAIN, 0, 1), (SLOW, 0), (PENDING, 0)), [[-8], [-8], [-8]])

    def test_crashed_member(self):
        self.assertEqual(behind(JOINED, (CRASH, 1), (DRAIN, 1, 1), (SLOW, 1), (PENDING, 1)), [[0], [-8], [-8], [-8]])

    def test_house_opened_anew(self):
        told = behind(JOINED, (OPEN, 2, 2), (SLOW, 1), (PENDING, 1), (JOIN, 1), (PENDING, 1))
        self.assertEqual(told[1:], [[-8], [-8], [0, 0], [0, 0]])


class ManyLines(unittest.TestCase):
    """Seeded lines of sets and drains."""

    def line(self, source):
        line = [(OPEN, 2, 2)]
        for _ in range(100):
            if source.randrange(4) == 0:
                line.append((source.choice((JOIN, DRAIN, DRAIN)), source.randrange(2), source.randrange(6)))
                line[-1] = line[-1][:2] if line[-1][0] == JOIN else line[-1]
            else:
                numbers = (source.randrange(2), source.randrange(2), source.randrange(-3, 4), source.randrange(3))
                line.append((SET, *numbers))
        return line

    def test_what_is_not_pending_is_told_as_it_is(self):
        joined = 0
        for seed in range(40):
            line = self.line(random.Random(seed))
            house, *told = behind(line, (STATE,), (SLOW, 0), (PENDING, 0), (DRAIN, 0, 1000), (SLOW, 0), (PENDING, 0))
            if told[0] == [-8]:
                continue
            joined += 1
            levels = house[5:5 + house[4]]
            now = {tuple(levels[at:at + 3]): levels[at + 3] for at in range(0, len(levels), 4)}
            flat = row(told[1])
            pending = [tuple(flat[at:at + 3]) for at in range(0, len(flat), 3)]
            slow = row(told[0])
            before = {tuple(slow[at:at + 3]): slow[at + 3] for at in range(0, len(slow), 4)}
            self.assertEqual(len(set(pending)), len(pending))
            for key in set(now) | set(before):
                if key not in pending:
                    self.assertEqual(before.get(key), now.get(key))
            changes = [number for key in pending for number in (*key, now.get(key, 0))]
            self.assertEqual(told[2], [0, 0, len(changes), *changes])
            self.assertEqual(told[3:], [[0, len(levels), *levels], [0, 0]])
        self.assertGreater(joined, 20)


if __name__ == "__main__":
    unittest.main()
