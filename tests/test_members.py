import unittest

from tests.helper import BACK, BEAT, BURST, DELIVER, MEMBER, OPEN, SET, SNAP, VIEW
from tests.helper import ask, last, sets

# Changes 1 to 20 of one level, amount 1 to 20: the change n has the place n - 1.
TWENTY = [(OPEN, 1, 2), *sets(20)]


def change(number, member=0):
    return (DELIVER, member, number - 1)


def told_behind(line, *calls):
    return ask(*line, *calls)[len(line):]


class Deliver(unittest.TestCase):
    def test_changes_in_order(self):
        told = told_behind(TWENTY, change(1), change(2), (MEMBER, 0), (VIEW, 0))
        self.assertEqual(told, [[0, 1, 0, 1], [0, 2, 0, 1], [0, 2, 2, 0, 0], [0, 2, 4, 0, 0, 5, 2]])

    def test_twice_and_late(self):
        told = told_behind(TWENTY, change(1), change(1), change(2), change(1), (VIEW, 0))
        self.assertEqual(told, [[0, 1, 0, 1], [0, 1, 0, 0], [0, 2, 0, 1], [0, 2, 0, 0], [0, 2, 4, 0, 0, 5, 2]])

    def test_too_early_is_kept_once(self):
        told = told_behind(TWENTY, change(3), change(3), (MEMBER, 0), (VIEW, 0))
        self.assertEqual(told, [[0, 0, 1, 0], [0, 0, 1, 0], [0, 0, 3, 0, 1, 3], [0, 0, 0]])

    def test_kept_ones_stand_by_number(self):
        told = told_behind(TWENTY, change(7), change(3), change(5), (MEMBER, 0))
        self.assertEqual(told[-1], [0, 0, 7, 0, 3, 3, 5, 7])

    def test_catching_up_ends_at_a_gap(self):
        told = told_behind(TWENTY, change(5), change(2), change(3), change(1), (MEMBER, 0), (VIEW, 0))
        self.assertEqual(told[3:], [[0, 3, 1, 3], [0, 3, 5, 0, 1, 5], [0, 3, 4, 0, 0, 5, 3]])

    def test_catching_up_does_a_removal(self):
        line = [(OPEN, 1, 1), (SET, 0, 0, 1, 1), (SET, 0, 1, 1, 1), (SET, 0, 0, 1, 0)]
        told = told_behind(line, change(3), change(2), change(1), (VIEW, 0))
        self.assertEqual(told[2:], [[0, 3, 0, 3], [0, 3, 4, 0, 1, 1, 1]])

    def test_members_are_apart(self):
        told = told_behind(TWENTY, change(1), change(3, member=1), (MEMBER, 0), (MEMBER, 1), (VIEW, 0), (VIEW, 1))
        self.assertEqual(told[2:], [[0, 1, 1, 0, 0], [0, 0, 3, 0, 1, 3], [0, 1, 4, 0, 0, 5, 1], [0, 0, 0]])

    def test_house_is_not_changed(self):
        line = [(OPEN, 1, 1), (SET, 0, 0, 1, 1), (SNAP,), (SET, 0, 0, 2, 1)]
        told = told_behind(line, (DELIVER, 0, 1), (DELIVER, 0, 2), (4, 1), (10, 0), (SET, 0, 0, 3, 1))
        self.assertEqual(told[2][1:9], [11, 2, 0, 0, 0, 1, 1, 0])
        self.assertEqual(told[3:], [[0, 0, 4, 1, 1, 2, 1], [0, 3, 3]])

    def test_beat_is_only_heard(self):
        line = TWENTY + [(BEAT,)]
        told = told_behind(line, change(2), (DELIVER, 0, 20), (MEMBER, 0), change(1), (MEMBER, 0))
        self.assertEqual(told[1:], [[0, 0, 1, 0], [0, 0, 20, 0, 1, 2], [0, 2, 0, 2], [0, 2, 20, 0, 0]])

    def test_heard_number_does_not_fall(self):
        line = [(OPEN, 1, 1), (BEAT,), (SNAP,), *sets(3)]
        told = told_behind(line, (DELIVER, 0, 4), (DELIVER, 0, 0), (DELIVER, 0, 1), (DELIVER, 0, 2), (MEMBER, 0))
        self.assertEqual(told[-1], [0, 1, 3, 0, 1, 3])

    def test_each_kind_is_heard_of(self):
        line = [(OPEN, 1, 1), *sets(3), (SNAP,), (BEAT,)]
        for place in (2, 3, 4):
            self.assertEqual(told_behind(line, (DELIVER, 0, place), (MEMBER, 0))[1][2], 3)


class KeptChanges(unittest.TestCase):
    EIGHT = [change(number) for number in range(5, 13)]
    AT_THREE = TWENTY + [(BURST, 0, 0, 2)]

    def test_eight_are_kept(self):
        told = told_behind(self.AT_THREE, *self.EIGHT, (MEMBER, 0))
        self.assertEqual([answer[2] for answer in told[:8]], [1, 2, 3, 4, 5, 6, 7, 8])
        self.assertEqual(told[8], [0, 3, 12, 0, 8, 5, 6, 7, 8, 9, 10, 11, 12])

    def test_eight_and_the_missing_one(self):
        told = told_behind(self.AT_THREE, *self.EIGHT, change(4), (MEMBER, 0))
        self.assertEqual(told[8:], [[0, 12, 0, 9], [0, 12, 12, 0, 0]])

    def test_one_of_the_eight_again(self):
        told = told_behind(self.AT_THREE, *self.EIGHT, change(12), change(5), change(3), (VIEW, 0))
        self.assertEqual(told[8:], [[0, 3, 8, 0]] * 3 + [[0, 3, 4, 0, 0, 5, 3]])

    def test_ninth_makes_it_wait(self):
        told = told_behind(self.AT_THREE, *self.EIGHT, change(13), (MEMBER, 0), (VIEW, 0))
        self.assertEqual(told[8:], [[0, -1, 8, 0], [0, -1, 13, 0, 8, 6, 7, 8, 9, 10, 11, 12, 13], [-8]])

    def test_ninth_with_the_least_number_is_itself_dropped(self):
        line = TWENTY + [change(number) for number in range(13, 5, -1)]
        told = told_behind(line, change(5), (MEMBER, 0))
        self.assertEqual(told, [[0, -1, 8, 0], [0, -1, 13, 0, 8, 6, 7, 8, 9, 10, 11, 12, 13]])


class Waiting(unittest.TestCase):
    # Member 0 waits and keeps 6 to 13; behind the twenty changes come a snapshot and a beat.
    LINE = TWENTY + [(SNAP,), (BEAT,), (BURST, 0, 4, 12)]

    def test_change_below_and_twice(self):
        told = told_behind(self.LINE, change(1), change(5), change(7), (MEMBER, 0))
        self.assertEqual(told[:3], [[0, -1, 8, 0]] * 3)
        self.assertEqual(told[3], [0, -1, 13, 0, 8, 6, 7, 8, 9, 10, 11, 12, 13])

    def test_change_above_pushes_the_least_out(self):
        told = told_behind(self.LINE, change(15), change(14), change(14), (MEMBER, 0))
        self.assertEqual(told, [[0, -1, 8, 0]] * 3 + [[0, -1, 15, 0, 8, 8, 9, 10, 11, 12, 13, 14, 15]])

    def test_change_with_number_one_is_not_done(self):
        line = [(OPEN, 1, 1), *sets(12), (BACK, 0, 1, 9), (DELIVER, 0, 0), (MEMBER, 0)]
        self.assertEqual(ask(*line)[-2:], [[0, -1, 8, 0], [0, -1, 10, 0, 8, 3, 4, 5, 6, 7, 8, 9, 10]])

    def test_beat_does_not_end_it(self):
        told = told_behind(self.LINE, (DELIVER, 0, 21), (MEMBER, 0), (VIEW, 0))
        self.assertEqual(told, [[0, -1, 8, 0], [0, -1, 20, 0, 8, 6, 7, 8, 9, 10, 11, 12, 13], [-8]])

    def test_snapshot_makes_it_live_and_old_kept_ones_go(self):
        told = told_behind(self.LINE, (DELIVER, 0, 20), (MEMBER, 0), (VIEW, 0))
        self.assertEqual(told, [[0, 20, 0, 0], [0, 20, 20, 0, 0], [0, 20, 4, 0, 0, 5, 20]])

    def test_snapshot_then_caught_up(self):
        expected = {
            4: [0, 4, 8, 0], 5: [0, 13, 0, 8], 6: [0, 13, 0, 7],
            12: [0, 13, 0, 1], 13: [0, 13, 0, 0], 14: [0, 14, 0, 0],
        }
        for number, answer in expected.items():
            line = [(OPEN, 1, 1), *sets(number), (SNAP,), *sets(20 - number, first=number + 1)]
            # Behind the snapshot each change's place is one more.
            places = [kept - 1 if kept <= number else kept for kept in (3, *range(6, 14))]
            line += [(DELIVER, 0, place) for place in places]
            with self.subTest(number=number):
                self.assertEqual(last(*line, (MEMBER, 0)), [0, -1, 13, 0, 8, 6, 7, 8, 9, 10, 11, 12, 13])
                told = told_behind(line, (DELIVER, 0, number), (VIEW, 0))
                self.assertEqual(told, [answer, [0, answer[1], 4, 0, 0, 5, answer[1]]])

    def test_kept_ones_at_the_snapshots_number(self):
        line = [(OPEN, 1, 1), *sets(8), (SNAP,), *sets(8, first=9)]
        # Changes 3 to 8 and 9 to 11 come: nine of them, so 4 to 11 stay.
        waits = line + [(BURST, 0, 2, 7), (BURST, 0, 9, 11)]
        self.assertEqual(last(*waits, (MEMBER, 0)), [0, -1, 11, 0, 8, 4, 5, 6, 7, 8, 9, 10, 11])
        told = told_behind(waits, (DELIVER, 0, 8), (MEMBER, 0), (VIEW, 0))
        self.assertEqual(told, [[0, 11, 0, 3], [0, 11, 11, 0, 0], [0, 11, 4, 0, 0, 5, 11]])

    def test_empty_snapshot_makes_it_live(self):
        line = [(OPEN, 1, 1), (SNAP,), *sets(12), (BURST, 0, 3, 11)]
        self.assertEqual(last(*line), [0, -1, 8, 0])
        told = told_behind(line, (DELIVER, 0, 0), (VIEW, 0), (DELIVER, 0, 1), (MEMBER, 0))
        self.assertEqual(told, [[0, 0, 8, 0], [0, 0, 0], [0, 1, 8, 1], [0, 1, 11, 0, 8, 4, 5, 6, 7, 8, 9, 10, 11]])


class SnapshotToALiveMember(unittest.TestCase):
    # Changes 1 to 4, a snapshot at the place 4, then the changes 5 to 8 at the places 5 to 8.
    LINE = [(OPEN, 1, 1), *sets(4), (SNAP,), *sets(4, first=5)]

    def test_newer_one_is_taken(self):
        told = told_behind(self.LINE, (DELIVER, 0, 0), (DELIVER, 0, 4), (VIEW, 0), (MEMBER, 0))
        self.assertEqual(told[1:], [[0, 4, 0, 0], [0, 4, 4, 0, 0, 5, 4], [0, 4, 4, 0, 0]])

    def test_view_is_the_snapshots_levels_alone(self):
        line = [(OPEN, 1, 1), (SET, 0, 0, 1, 1), (SET, 0, 0, 1, 0), (SET, 0, 1, 2, 7), (SNAP,)]
        told = told_behind(line, (DELIVER, 0, 0), (DELIVER, 0, 3), (VIEW, 0))
        self.assertEqual(told[1:], [[0, 3, 0, 0], [0, 3, 4, 0, 1, 2, 7]])

    def test_too_old_one_does_nothing(self):
        for number in (5, 8):
            line = self.LINE + [(BURST, 0, 0, 3), (BURST, 0, 5, number)]
            told = told_behind(line, (DELIVER, 0, 4), (VIEW, 0))
            self.assertEqual(told, [[0, number, 0, 0], [0, number, 4, 0, 0, 5, number]])

    def test_one_of_its_own_number_leaves_kept_ones(self):
        told = told_behind(self.LINE, (BURST, 0, 0, 3), (DELIVER, 0, 7), (DELIVER, 0, 4), (MEMBER, 0))
        self.assertEqual(told[1:], [[0, 4, 1, 0], [0, 4, 1, 0], [0, 4, 7, 0, 1, 7]])

    def test_caught_up_ones_are_counted_and_older_ones_dropped(self):
        told = told_behind(self.LINE, (BURST, 0, 2, 3), (BURST, 0, 5, 6), (DELIVER, 0, 8), (DELIVER, 0, 4), (MEMBER, 0))
        self.assertEqual(told[:3], [[0, 0, 2, 0], [0, 0, 4, 0], [0, 0, 5, 0]])
        self.assertEqual(told[3:], [[0, 6, 1, 2], [0, 6, 8, 0, 1, 8]])

    def test_later_changes_leave_the_snapshot_as_it_was(self):
        line = [(OPEN, 1, 2), (SET, 0, 0, 1, 1), (SNAP,), (SET, 0, 0, 1, 2)]
        told = told_behind(line, (BURST, 0, 1, 2), (DELIVER, 1, 1), (VIEW, 0), (VIEW, 1))
        self.assertEqual(told, [[0, 2, 0, 1], [0, 1, 0, 0], [0, 2, 4, 0, 0, 1, 2], [0, 1, 4, 0, 0, 1, 1]])


class BurstAndBack(unittest.TestCase):
    def test_burst_is_in_order(self):
        self.assertEqual(told_behind(TWENTY, (BURST, 0, 0, 19), (VIEW, 0)), [[0, 20, 0, 20], [0, 20, 4, 0, 0, 5, 20]])

    def test_back_is_in_the_opposite_order(self):
        told = told_behind(TWENTY, (BACK, 0, 0, 8), (VIEW, 0), (BACK, 1, 0, 9), (MEMBER, 1))
        self.assertEqual(told[:2], [[0, 9, 0, 9], [0, 9, 4, 0, 0, 5, 9]])
        self.assertEqual(told[2:], [[0, -1, 8, 0], [0, -1, 10, 0, 8, 3, 4, 5, 6, 7, 8, 9, 10]])

    def test_one_frame(self):
        for call in (BURST, BACK):
            self.assertEqual(told_behind(TWENTY, (call, 0, 0, 0), (call, 0, 0, 0)), [[0, 1, 0, 1], [0, 1, 0, 0]])

    def test_both_ends_come(self):
        for call in (BURST, BACK):
            told = told_behind(TWENTY, (call, 0, 2, 5), (MEMBER, 0))
            self.assertEqual(told, [[0, 0, 4, 0], [0, 0, 6, 0, 4, 3, 4, 5, 6]])

    def test_count_is_over_all_of_them(self):
        line = [(OPEN, 1, 1), *sets(2), (SNAP,), (BEAT,), *sets(2, first=3)]
        self.assertEqual(last(*line, (BURST, 0, 0, 5)), [0, 4, 0, 4])
        self.assertEqual(last(*line, (BURST, 0, 2, 5)), [0, 4, 0, 2])
        self.assertEqual(last(*line, (BACK, 0, 0, 5)), [0, 4, 0, 2])
        self.assertEqual(last(*line, (BURST, 0, 0, 5), (BURST, 0, 0, 5)), [0, 4, 0, 0])

    def test_done_before_waiting_is_counted(self):
        line = TWENTY + [(DELIVER, 0, 0), (BURST, 0, 2, 9), (BEAT,)]
        self.assertEqual(last(*line, (BURST, 0, 10, 20)), [0, -1, 8, 0])
        line = [(OPEN, 1, 1), *sets(1), (BEAT,), *sets(20, first=2)]
        told = last(*line, (BURST, 0, 3, 10), (BACK, 0, 0, 1))
        self.assertEqual(told, [0, 1, 8, 1])
        self.assertEqual(last(*line, (BURST, 0, 3, 10), (BURST, 0, 0, 1), (DELIVER, 0, 12)), [0, -1, 8, 0])

    def test_waits_and_lives_again_within_one_burst(self):
        line = [(OPEN, 1, 1), *sets(12), (SNAP,), *sets(2, first=13)]
        self.assertEqual(last(*line, (BURST, 0, 1, 14)), [0, 14, 0, 2])


if __name__ == "__main__":
    unittest.main()
