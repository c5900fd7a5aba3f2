import unittest

from bookfeed.frames import BEAT as BEAT_KIND
from bookfeed.frames import Frame, frame_octets
from tests.helper import BEAT, FRAME, OPEN, SET, SNAP
from tests.helper import ask, last, octets_of, read_frame, sets


def entry_of(book, side, price, amount):
    """The entry's bytes, out of those of the one change's frame."""
    return octets_of((OPEN, 4, 1), (SET, book, side, price, amount), (FRAME, 0))[5:-2]


class Change(unittest.TestCase):
    def test_bytes(self):
        octets = octets_of((OPEN, 1, 1), (SET, 0, 1, -2, 300), (FRAME, 0))
        self.assertEqual(octets, [1, 0, 0, 0, 1, 1, 3, 172, 2, 5, 147])

    def test_amount_of_zero(self):
        octets = octets_of((OPEN, 1, 1), (SET, 0, 0, 0, 9), (SET, 0, 0, 0, 0), (FRAME, 1))
        self.assertEqual(octets, [1, 0, 0, 0, 2, 0, 0, 0, 0, 11])

    def test_book_and_side(self):
        for book in range(4):
            for side in range(2):
                self.assertEqual(entry_of(book, side, 0, 1), [2 * book + side, 0, 1])

    def test_prices(self):
        told = {
            0: [0], -1: [1], 1: [2], -2: [3], 2: [4],
            63: [126], -64: [127], 64: [128, 1], -65: [129, 1],
            150: [172, 2], -150: [171, 2],
            8191: [254, 127], -8192: [255, 127], 8192: [128, 128, 1],
            1000000: [128, 137, 122], -1000000: [255, 136, 122],
        }
        for price, octets in told.items():
            with self.subTest(price=price):
                self.assertEqual(entry_of(0, 0, price, 1), [0, *octets, 1])

    def test_amounts(self):
        told = {
            1: [1], 126: [126], 127: [127], 128: [128, 1], 129: [129, 1], 255: [255, 1], 256: [128, 2],
            300: [172, 2], 16383: [255, 127], 16384: [128, 128, 1],
            268435455: [255, 255, 255, 127], 268435456: [128, 128, 128, 128, 1],
            1000000000: [128, 148, 235, 220, 3],
        }
        for amount, octets in told.items():
            with self.subTest(amount=amount):
                self.assertEqual(entry_of(0, 1, -1, amount), [1, 1, *octets])

    def test_number_is_the_changes_own(self):
        line = [(OPEN, 1, 1), (SNAP,), *sets(120), (FRAME, 120)]
        self.assertEqual(octets_of(*line)[:5], [1, 0, 0, 0, 120])
        self.assertEqual(octets_of(*line[:-1], (FRAME, 1))[:5], [1, 0, 0, 0, 1])


class Snapshot(unittest.TestCase):
    def test_without_levels(self):
        told = ask((OPEN, 1, 1), (SNAP,), (FRAME, 0))
        self.assertEqual(told[1:], [[0, 0, 8], [0, 8, 2, 0, 0, 0, 0, 0, 0, 2]])

    def test_without_levels_any_more(self):
        line = [(OPEN, 1, 1), (SET, 0, 0, 1, 1), (SET, 0, 0, 1, 0), (SNAP,), (FRAME, 2)]
        self.assertEqual(ask(*line)[3:], [[0, 2, 8], [0, 8, 2, 0, 0, 0, 2, 0, 0, 12]])

    def test_bytes_of_levels_in_order(self):
        changes = [(1, 0, -3, 127), (0, 1, 4, 128), (0, 0, 150, 300), (0, 1, -1, 9), (0, 0, -64, 1)]
        line = [(OPEN, 2, 1), *[(SET, *change) for change in changes], (SNAP,), (FRAME, 5)]
        body = [2, 0, 0, 0, 5, 5]
        body += [0, 127, 1] + [0, 172, 2, 172, 2] + [1, 1, 9] + [1, 8, 128, 1] + [2, 5, 127]
        self.assertEqual(octets_of(*line), body + [44, 140])
        self.assertEqual(last(*line[:-1]), [0, 5, 26])

    def test_forty_levels_of_the_longest_bytes(self):
        changes = [(place % 4, place % 2, (-1) ** place * (1000000 - place), 1000000000 - place) for place in range(40)]
        line = [(OPEN, 4, 1), *[(SET, *change) for change in changes], (SNAP,), (FRAME, 40)]
        octets = octets_of(*line)
        self.assertEqual(last(*line[:-1]), [0, 40, 368])
        self.assertEqual(len(octets), 368)
        self.assertEqual(octets[5], 40)
        self.assertEqual(read_frame(octets), (2, 40, sorted(changes)))

    def test_check_is_modulo_65536(self):
        changes = [(0, 0, price, 1000000000) for price in range(40)]
        octets = octets_of((OPEN, 1, 1), *[(SET, *change) for change in changes], (SNAP,), (FRAME, 40))
        total = sum((index + 1) * octet for index, octet in enumerate(octets[:-2]))
        self.assertGreater(total, 65536 * 2)
        self.assertEqual(octets[-2:], [total // 256 % 256, total % 256])

    def test_frame_stays_as_it_was_sent(self):
        line = [(OPEN, 1, 1), (SET, 0, 0, 1, 1), (SNAP,), (SET, 0, 0, 1, 2), (SET, 0, 0, 2, 1), (FRAME, 1)]
        self.assertEqual(read_frame(octets_of(*line)), (2, 1, [(0, 0, 1, 1)]))

    def test_160_frames(self):
        line = [(OPEN, 1, 1), *[(SNAP,)] * 160]
        self.assertEqual(last(*line), [0, 159, 8])
        self.assertEqual(last(*line, (SNAP,)), [-5])

    def test_is_sent_behind_120_changes(self):
        self.assertEqual(last((OPEN, 1, 1), *sets(120), (SNAP,)), [0, 120, 11])


class Beat(unittest.TestCase):
    def test_bytes(self):
        told = ask((OPEN, 1, 1), (BEAT,), (FRAME, 0), *sets(2), (BEAT,), (FRAME, 3))
        self.assertEqual(told[1:3], [[0, 0], [0, 7, 3, 0, 0, 0, 0, 0, 3]])
        self.assertEqual(told[5:], [[0, 3], [0, 7, 3, 0, 0, 0, 2, 0, 13]])

    def test_160_frames(self):
        line = [(OPEN, 1, 1), *[(BEAT,)] * 160]
        self.assertEqual(last(*line), [0, 159])
        self.assertEqual(last(*line, (BEAT,)), [-5])
        self.assertEqual(last(*line, (SNAP,)), [-5])

    def test_number_in_four_bytes_the_highest_first(self):
        octets = frame_octets(Frame(BEAT_KIND, 1 * 2 ** 24 + 2 * 2 ** 16 + 3 * 2 ** 8 + 4, []))
        self.assertEqual(octets, [3, 1, 2, 3, 4, 0, 3 + 2 + 6 + 12 + 20])
        self.assertEqual(frame_octets(Frame(BEAT_KIND, 2 ** 32 - 1, []))[:5], [3, 255, 255, 255, 255])


class FramesPlace(unittest.TestCase):
    def test_place_is_not_the_number(self):
        line = [(OPEN, 1, 1), (BEAT,), (SET, 0, 0, 0, 1), (SNAP,)]
        kinds = [read_frame(octets_of(*line, (FRAME, place)))[:2] for place in range(3)]
        self.assertEqual(kinds, [(3, 0), (1, 1), (2, 1)])

    def test_no_such_frame(self):
        self.assertEqual(last((OPEN, 1, 1), (FRAME, 0)), [-4])
        self.assertEqual(last((OPEN, 1, 1), (BEAT,), (FRAME, 1)), [-4])
        self.assertEqual(last((OPEN, 1, 1), *[(BEAT,)] * 160, (FRAME, 160)), [-4])
        self.assertEqual(last((OPEN, 1, 1), *[(BEAT,)] * 160, (FRAME, 159))[0], 0)


if __name__ == "__main__":
    unittest.main()
