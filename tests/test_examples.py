"""The document's examples, number by number."""

import unittest

from tests.helper import BEAT, BURST, DELIVER, FRAME, MEMBER, OPEN, SET
from tests.helper import ask, octets_of, sets


class Examples(unittest.TestCase):
    # Changes 1 to 13, and a member at number 3; the change n has the place n - 1.
    AT_THREE = [(OPEN, 1, 1), *sets(13), (BURST, 0, 0, 2)]

    def deliver(self, *numbers):
        """Deliver's and member's answers for each of the changes."""
        calls = []
        for number in numbers:
            calls += [(DELIVER, 0, number - 1), (MEMBER, 0)]
        told = ask(*self.AT_THREE, *calls)
        self.assertEqual(told[len(self.AT_THREE) - 1], [0, 3, 0, 3])
        told = told[len(self.AT_THREE):]
        return list(zip(told[::2], told[1::2]))

    def test_change_frame(self):
        octets = octets_of((OPEN, 1, 1), (SET, 0, 1, -2, 300), (FRAME, 0))
        self.assertEqual(octets, [1, 0, 0, 0, 1, 1, 3, 172, 2, 5, 147])

    def test_beat_frame(self):
        self.assertEqual(octets_of((OPEN, 1, 1), (BEAT,), (FRAME, 0)), [3, 0, 0, 0, 0, 0, 3])

    def test_numbers_in_entries(self):
        for price, octet in ((0, 0), (-1, 1), (1, 2), (-2, 3)):
            octets = octets_of((OPEN, 1, 1), (SET, 0, 0, price, 300), (FRAME, 0))
            self.assertEqual(octets[5:-2], [0, octet, 172, 2])
        octets = octets_of((OPEN, 1, 1), *sets(1), (SET, 0, 0, 5, 0), (FRAME, 1))
        self.assertEqual(octets[5:-2], [0, 10, 0])

    def test_five_six_then_four(self):
        self.assertEqual(self.deliver(5, 6, 4), [
            ([0, 3, 1, 0], [0, 3, 5, 0, 1, 5]),
            ([0, 3, 2, 0], [0, 3, 6, 0, 2, 5, 6]),
            ([0, 6, 0, 3], [0, 6, 6, 0, 0]),
        ])

    def test_five_to_twelve_then_thirteen(self):
        told = self.deliver(*range(5, 14))
        self.assertEqual(told[7], ([0, 3, 8, 0], [0, 3, 12, 0, 8, 5, 6, 7, 8, 9, 10, 11, 12]))
        self.assertEqual(told[8], ([0, -1, 8, 0], [0, -1, 13, 0, 8, 6, 7, 8, 9, 10, 11, 12, 13]))


if __name__ == "__main__":
    unittest.main()
