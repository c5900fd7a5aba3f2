"""Frames lost, doubled and reordered: what must hold however they come."""

import random
import unittest

from tests.helper import BACK, BEAT, BURST, DELIVER, FRAME, MEMBER, OPEN, SET, SNAP, VIEW
from tests.helper import ask, octets_of, read_frame, row


def random_line(source):
    """A line of calls out of a seeded source, so that each run asks the same."""
    line = [(OPEN, 2, 2)]
    frames = 0
    while len(line) < 100:
        kind = source.choice((SET, SET, SET, SNAP, BEAT, DELIVER, DELIVER, DELIVER, BURST, BACK))
        if kind == SET:
            line.append((SET, source.randrange(2), source.randrange(2), source.randrange(-2, 3), source.randrange(4)))
        elif kind in (SNAP, BEAT):
            line.append((kind,))
        elif kind == DELIVER:
            line.append((DELIVER, source.randrange(2), source.randrange(max(0, frames - 14), frames + 1)))
        else:
            first = source.randrange(frames + 1)
            line.append((kind, source.randrange(2), first, first + source.randrange(4)))
        frames = sum(1 for answer, call in zip(ask(*line), line) if call[0] in (SET, SNAP, BEAT) and answer[0] == 0)
    return line


def levels_as_of(changes, count):
    levels = {}
    for change in changes[:count]:
        levels[change[:3]] = change[3]
    return [number for key in sorted(levels) for number in (*key, levels[key]) if levels[key] > 0]


class Net(unittest.TestCase):
    def check_members(self, line):
        """A live member's view is the house's levels as of its number; what it keeps is above that."""
        changes = [call[1:] for call, answer in zip(line, ask(*line)) if call[0] == SET and answer[0] == 0]
        told = ask(*line, (MEMBER, 0), (VIEW, 0), (MEMBER, 1), (VIEW, 1))[len(line):]
        for member, view in (told[:2], told[2:]):
            number, kept = member[1], row(member, 4)
            self.assertEqual(kept, sorted(set(kept)))
            self.assertLessEqual(len(kept), 8)
            self.assertTrue(all(number + 1 < other <= member[2] <= len(changes) for other in kept))
            if number == -1:
                self.assertEqual((view, len(kept)), ([-8], 8))
            else:
                self.assertEqual(view[:2], [0, number])
                self.assertEqual(row(view, 2), levels_as_of(changes, number))
        return [told[0][1], told[2][1]]

    def test_views_are_as_of_their_numbers(self):
        numbers = []
        for seed in range(60):
            line = random_line(random.Random(seed))
            for count in range(10, len(line) + 1, 15):
                with self.subTest(seed=seed, count=count):
                    numbers += self.check_members(line[:count])
        self.assertIn(-1, numbers)
        self.assertGreater(max(numbers), 20)

    def test_snapshots_tell_the_levels_as_of_their_numbers(self):
        for seed in range(10):
            line = random_line(random.Random(seed))
            told = ask(*line)
            changes = []
            for call, answer in zip(line, told):
                if answer[0] == 0 and call[0] == SET:
                    changes.append(call[1:])
                    expected = (1, len(changes), [call[1:]])
                    self.assertEqual(read_frame(octets_of(*line, (FRAME, answer[2]))), expected)
                elif answer[0] == 0 and call[0] == SNAP:
                    octets = octets_of(*line, (FRAME, answer[1]))
                    kind, number, entries = read_frame(octets)
                    self.assertEqual((kind, number, len(octets)), (2, len(changes), answer[2]))
                    self.assertEqual([part for entry in entries for part in entry], levels_as_of(changes, number))


if __name__ == "__main__":
    unittest.main()
