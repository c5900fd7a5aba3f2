"""A stream: feed and reset, and that the reader is apart from the house."""

import random
import unittest

from tests.helper import BEAT, CRASH, FEED, FRAME, OPEN, RESET, SNAP, STATE
from tests.helper import ask, checked, decode, feed, framed, last, octets_of, sets

BEAT_FRAME = [3, 0, 0, 0, 0, 0, 3]
CHANGE_FRAME = [1, 0, 0, 0, 1, 1, 3, 172, 2, 5, 147]
SNAPSHOT_FRAME = checked([2, 0, 0, 1, 2, 1, 0, 0, 1])


class Feed(unittest.TestCase):
    def test_whole_frames(self):
        told = ask(feed(framed(BEAT_FRAME)), feed(framed(CHANGE_FRAME)), feed(framed(SNAPSHOT_FRAME)))
        self.assertEqual(told, [[0, 0, 0, 3, 0, 3, 0], [0, 0, 0, 3, 0, 1, 1], [0, 0, 0, 3, 0, 2, 258]])

    def test_several_at_once(self):
        octets = framed(CHANGE_FRAME) + framed(BEAT_FRAME) + framed(SNAPSHOT_FRAME)
        self.assertEqual(last(feed(octets)), [0, 0, 0, 9, 0, 1, 1, 0, 3, 0, 0, 2, 258])

    def test_several_and_a_piece(self):
        octets = framed(CHANGE_FRAME) + framed(BEAT_FRAME) + framed(SNAPSHOT_FRAME)[:4]
        told = ask(feed(octets), feed(framed(SNAPSHOT_FRAME)[4:]))
        self.assertEqual(told, [[0, 0, 4, 6, 0, 1, 1, 0, 3, 0], [0, 0, 0, 3, 0, 2, 258]])

    def test_piece_and_the_next_frame(self):
        octets = framed(CHANGE_FRAME) + framed(BEAT_FRAME)
        told = ask(feed(octets[:5]), feed(octets[5:]))
        self.assertEqual(told, [[0, 0, 5, 0], [0, 0, 0, 6, 0, 1, 1, 0, 3, 0]])

    def test_single_bytes(self):
        octets = framed(CHANGE_FRAME)
        told = ask(*[feed([octet]) for octet in octets])
        self.assertEqual(told, [[0, 0, count, 0] for count in range(1, 13)] + [[0, 0, 0, 3, 0, 1, 1]])

    def test_two_pieces_cut_anywhere(self):
        octets = framed(CHANGE_FRAME)
        for count in range(len(octets)):
            told = ask(feed(octets[:count]), feed(octets[count:]))
            self.assertEqual(told, [[0, 0, count, 0], [0, 0, 0, 3, 0, 1, 1]])

    def test_empty_row(self):
        self.assertEqual(ask((FEED, 0), feed([0]), (FEED, 0), feed([7, 3]), (FEED, 0)),
                         [[0, 0, 0, 0], [0, 0, 1, 0], [0, 0, 1, 0], [0, 0, 3, 0], [0, 0, 3, 0]])

    def test_length_of_nought(self):
        told = ask(feed([0, 0]), feed([0, 0, 0, 0, 0]))
        self.assertEqual(told, [[0, 0, 0, 3, 1, 0, 0], [0, 0, 1, 6, 1, 0, 0, 1, 0, 0]])

    def test_thousand_noughts(self):
        self.assertEqual(last(feed([0] * 1000)), [0, 0, 0, 1500, *[1, 0, 0] * 500])

    def test_frames_that_are_wrong(self):
        wrongs = ([3, 0, 0], [3, 0, 0, 0, 0, 0, 4], checked([4, 0, 0, 0, 1]), checked([3, 0, 0, 0, 1, 0]),
                  checked([1, 0, 0, 0, 1, 0, 128, 0, 1]), checked([1, 0, 0, 0, 1, 8, 0, 1]))
        for wrong, octets in enumerate(wrongs, start=1):
            self.assertEqual(last(decode(octets)), [0, wrong])
            told = ask(feed(framed(octets)), feed(framed(octets) + framed(BEAT_FRAME)))
            self.assertEqual(told, [[0, 0, 0, 3, wrong, 0, 0], [0, 0, 0, 6, wrong, 0, 0, 0, 3, 0]])

    def test_wrong_frames_among_good_ones(self):
        octets = framed(BEAT_FRAME) + framed(BEAT_FRAME[:6]) + framed(CHANGE_FRAME)
        self.assertEqual(last(feed(octets)), [0, 0, 0, 9, 0, 3, 0, 1, 0, 0, 0, 1, 1])

    def test_frames_do_not_come_to_members_or_the_house(self):
        line = [(OPEN, 1, 1), (STATE,), (9, 0), feed(framed(CHANGE_FRAME)), (STATE,), (9, 0)]
        told = ask(*line)
        self.assertEqual(told[1:3], told[4:])

    def test_bytes_outside_0_to_255(self):
        for octet in (-1, 256, -10 ** 18, 10 ** 18):
            for place in range(3):
                octets = [0] * 3
                octets[place] = octet
                self.assertEqual(ask(feed([0, 7, 3]), feed(octets), (FEED, 0)), [[0, 0, 3, 0], [-1], [0, 0, 3, 0]])
        self.assertEqual(ask(feed([0, 255, 0, 255]))[0], [0, 0, 4, 0])

    def test_thousand_bytes(self):
        # 111 frames of nine bytes, and one byte that waits.
        octets = framed(BEAT_FRAME) * 111 + [0]
        told = ask(feed(octets), feed(octets + [0]), (FEED, 0))
        self.assertEqual(told, [[0, 0, 1, 333, *[0, 3, 0] * 111], [-1], [0, 0, 1, 0]])


class Lengths(unittest.TestCase):
    def test_400(self):
        told = ask(feed([1, 144]), feed([0] * 399), feed([0]))
        self.assertEqual(told, [[0, 0, 2, 0], [0, 0, 401, 0], [0, 0, 0, 3, 3, 0, 0]])
        self.assertEqual(last(feed([1, 144] + [9] * 400 + [5])), [0, 0, 1, 3, 2, 0, 0])

    def test_401(self):
        self.assertEqual(last(feed([1, 145])), [0, 1, 0, 0])
        self.assertEqual(last(feed([1, 145] + [0] * 401)), [0, 1, 0, 0])
        self.assertEqual(ask(feed([1]), feed([145, 7, 7])), [[0, 0, 1, 0], [0, 1, 0, 0]])

    def test_far_above(self):
        for octets in ([2, 0], [255, 255]):
            self.assertEqual(last(feed(octets)), [0, 1, 0, 0])
            self.assertEqual(last(feed(octets[:1])), [0, 0, 1, 0])

    def test_higher_byte_stands_first(self):
        self.assertEqual(ask(feed([1, 0]), feed([0] * 255), feed([0]))[1:], [[0, 0, 257, 0], [0, 0, 0, 3, 3, 0, 0]])

    def test_longest_frame_that_is_sent(self):
        line = [(OPEN, 1, 1), *[(1, 0, 0, 1000000 - price, 1000000000) for price in range(40)], (SNAP,), (FRAME, 40)]
        octets = octets_of(*line)
        self.assertEqual(len(octets), 368)
        self.assertEqual(last(feed(framed(octets))), [0, 0, 0, 3, 0, 2, 40])


class Broken(unittest.TestCase):
    def test_frames_before_it_are_read(self):
        octets = framed(BEAT_FRAME) + [1, 145] + framed(BEAT_FRAME)
        self.assertEqual(last(feed(octets)), [0, 1, 0, 3, 0, 3, 0])

    def test_nothing_is_done_with_bytes(self):
        told = ask(feed([255, 255, 1]), feed(framed(BEAT_FRAME)), feed([0]), (FEED, 0), feed([0, 0]))
        self.assertEqual(told, [[0, 1, 0, 0]] * 5)

    def test_bad_bytes_are_still_refused(self):
        self.assertEqual(ask(feed([255, 255]), feed([256]), (FEED, 0))[1:], [[-1], [0, 1, 0, 0]])

    def test_decode_needs_no_reader(self):
        self.assertEqual(ask(feed([255, 255]), decode(BEAT_FRAME))[1], [0, 0, 3, 0, 0])


class Reset(unittest.TestCase):
    def test_at_first(self):
        self.assertEqual(ask((RESET,), (FEED, 0)), [[0], [0, 0, 0, 0]])

    def test_broken_reader(self):
        told = ask(feed([255, 255]), (RESET,), (FEED, 0), feed(framed(BEAT_FRAME)))
        self.assertEqual(told[1:], [[0], [0, 0, 0, 0], [0, 0, 0, 3, 0, 3, 0]])

    def test_waiting_bytes_are_gone(self):
        told = ask(feed([0, 7, 3]), (RESET,), (FEED, 0), feed(framed(BEAT_FRAME)))
        self.assertEqual(told[1:], [[0], [0, 0, 0, 0], [0, 0, 0, 3, 0, 3, 0]])

    def test_house_stays(self):
        line = [(OPEN, 2, 2), *sets(3), (BEAT,), (STATE,), (RESET,), (STATE,)]
        told = ask(*line)
        self.assertEqual(told[-1], told[-3])


class ApartFromTheHouse(unittest.TestCase):
    def test_no_house_is_needed(self):
        self.assertEqual(ask(feed([0]), (RESET,), (STATE,)), [[0, 0, 1, 0], [0], [-2]])

    def test_open_leaves_waiting_bytes(self):
        octets = framed(BEAT_FRAME)
        told = ask(feed(octets[:4]), (OPEN, 1, 1), (FEED, 0), (OPEN, 2, 2), feed(octets[4:]))
        self.assertEqual(told[2:], [[0, 0, 4, 0], [0], [0, 0, 0, 3, 0, 3, 0]])

    def test_open_leaves_it_broken(self):
        self.assertEqual(ask(feed([255, 255]), (OPEN, 1, 1), (FEED, 0))[2], [0, 1, 0, 0])

    def test_crash_leaves_it(self):
        self.assertEqual(ask((OPEN, 1, 1), feed([0, 7, 3]), (CRASH, 0), (FEED, 0))[3], [0, 0, 3, 0])

    def test_reader_is_new_at_a_lines_beginning(self):
        ask(feed([0, 7, 3]))
        self.assertEqual(ask((FEED, 0)), [[0, 0, 0, 0]])
        ask(feed([255, 255]))
        self.assertEqual(ask((FEED, 0)), [[0, 0, 0, 0]])


class ManyPieces(unittest.TestCase):
    """Seeded streams cut into seeded pieces: the frames are those of the stream that comes whole."""

    def stream(self, source):
        line = [(OPEN, 1, 1), *sets(5), (SNAP,), (BEAT,)]
        octets = []
        for _ in range(20):
            frame = octets_of(*line, (FRAME, source.randrange(7)))
            if source.randrange(4) == 0:
                frame = frame[:source.randrange(len(frame))]
            octets += framed(frame)
        if source.randrange(3) == 0:
            octets += [1 + source.randrange(255), 145 + source.randrange(111), 0, 0]
        return octets + [0] * source.randrange(2)

    def pieces(self, source, octets):
        at = 0
        while at < len(octets):
            size = source.choice((0, 1, 1, 2, 3, 5, 8, 20))
            yield octets[at:at + size]
            at += size

    def test_cut_otherwise_read_alike(self):
        broken = 0
        for seed in range(60):
            source = random.Random(seed)
            octets = self.stream(source)
            whole = last(feed(octets))
            told = ask(*map(feed, self.pieces(source, octets)))
            self.assertEqual([number for answer in told for number in answer[4:]], whole[4:])
            self.assertEqual(told[-1][:3], whole[:3])
            self.assertGreaterEqual(whole[3], 60)
            broken += whole[1]
        self.assertTrue(5 < broken < 55)


if __name__ == "__main__":
    unittest.main()
