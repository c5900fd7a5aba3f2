"""Bytes read as a frame: each kind, and each of what may be wrong, the first of them told."""

import random
import unittest

from tests.helper import BEAT, DECODE, FRAME, OPEN, SET, SNAP
from tests.helper import ask, checked, decode, last, octets_of, sets

HEAD = {1: [1, 0, 0, 0, 1], 2: [2, 0, 0, 0, 1], 3: [3, 0, 0, 0, 1]}


def told(octets):
    return last(decode(octets))


def told_of(kind, body):
    """Decode's answer for a frame with this between its number and its check."""
    return told(checked([*HEAD[kind], *body]))


class Reads(unittest.TestCase):
    def wrong(self, expected, kind, body):
        with self.subTest(kind=kind, body=body):
            self.assertEqual(told_of(kind, body), [0, expected])

    def fine(self, levels, kind, body):
        with self.subTest(kind=kind, body=body):
            self.assertEqual(told_of(kind, body), [0, 0, kind, 1, len(levels), *levels])


class Good(Reads):
    def test_written_out(self):
        self.assertEqual(told([1, 0, 0, 0, 1, 1, 3, 172, 2, 5, 147]), [0, 0, 1, 1, 4, 0, 1, -2, 300])
        self.assertEqual(told([3, 0, 0, 0, 0, 0, 3]), [0, 0, 3, 0, 0])
        self.assertEqual(told([2, 0, 0, 0, 0, 0, 0, 2]), [0, 0, 2, 0, 0])

    def test_number_in_four_bytes(self):
        self.assertEqual(told(checked([3, 1, 2, 3, 4])), [0, 0, 3, 16909060, 0])
        self.assertEqual(told(checked([3, 255, 255, 255, 255])), [0, 0, 3, 4294967295, 0])
        self.assertEqual(told(checked([1, 255, 0, 0, 0, 0, 0, 0])), [0, 0, 1, 4278190080, 4, 0, 0, 0, 0])

    def test_back_from_frame(self):
        changes = [(3, 1, -1000000, 1000000000), (0, 0, 1000000, 1), (0, 1, -1, 127), (2, 0, 64, 128), (0, 0, 0, 16384)]
        line = [(OPEN, 4, 1), *[(SET, *change) for change in changes], (SNAP,), (BEAT,), (SET, 0, 1, -1, 0)]
        for place, change in enumerate([*changes, None, None, (0, 1, -1, 0)]):
            octets = octets_of(*line, (FRAME, place))
            levels = [number for level in sorted(changes) for number in level]
            expected = {5: [0, 0, 2, 5, 20, *levels], 6: [0, 0, 3, 5, 0], 7: [0, 0, 1, 6, 4, 0, 1, -1, 0]}
            with self.subTest(place=place):
                self.assertEqual(told(octets), expected.get(place) or [0, 0, 1, place + 1, 4, *change])

    def test_forty_levels_back_from_frame(self):
        changes = [(place % 4, place % 2, (-1) ** place * (1000000 - place), 1000000000 - place) for place in range(40)]
        octets = octets_of((OPEN, 4, 1), *[(SET, *change) for change in changes], (SNAP,), (FRAME, 40))
        levels = [number for level in sorted(changes) for number in level]
        self.assertEqual(told(octets), [0, 0, 2, 40, 160, *levels])

    def test_books_need_not_be_the_houses(self):
        octets = checked([*HEAD[1], 7, 0, 1])
        self.assertEqual(ask((OPEN, 1, 1), decode(octets))[1], [0, 0, 1, 1, 4, 3, 1, 0, 1])

    def test_bounds_of_an_entry(self):
        self.fine([0, 0, 0, 0], 1, [0, 0, 0])
        self.fine([3, 1, 0, 1], 1, [7, 0, 1])
        self.fine([0, 0, 1000000, 1], 1, [0, 128, 137, 122, 1])
        self.fine([0, 0, -1000000, 1], 1, [0, 255, 136, 122, 1])
        self.fine([0, 0, 0, 1000000000], 1, [0, 0, 128, 148, 235, 220, 3])
        self.fine([0, 0, 0, 1], 2, [1, 0, 0, 1])

    def test_nothing_else_is_changed(self):
        octets = checked([*HEAD[1], 0, 0, 5])
        asked = ask((OPEN, 1, 1), decode(octets), (FRAME, 0), (9, 0), (8, 0), (21,), (18, 0))
        self.assertEqual(asked[2:], [[-4], [0, 0, 0, 0, 0], [0, 0, 0], [0, 1, 0, 0, 0, 1, 0], [0, 0, 0, 0]])


class TooShort(Reads):
    def test_empty_row(self):
        self.assertEqual(last((DECODE, 0)), [0, 1])

    def test_up_to_six_bytes(self):
        for count in range(7):
            self.assertEqual(told([0] * count), [0, 1])
            self.assertEqual(told([3, 0, 0, 0, 0, 3, 0][:count]), [0, 1])
        self.assertEqual(told(checked([3, 0, 0, 0])), [0, 1])

    def test_comes_first(self):
        self.assertEqual(told([9, 9, 9, 9, 9, 9]), [0, 1])
        self.assertEqual(told([9, 9, 9, 9, 9, 9, 9]), [0, 2])


class BadCheck(Reads):
    def test_each_byte_counts(self):
        octets = [1, 0, 0, 0, 1, 1, 3, 172, 2, 5, 147]
        for place in range(len(octets)):
            other = list(octets)
            other[place] = (other[place] + 1) % 256
            self.assertEqual(told(other), [0, 2])

    def test_places_count(self):
        self.assertEqual(told([1, 0, 0, 0, 1, 3, 1, 172, 2, 5, 147]), [0, 2])

    def test_higher_byte_stands_first(self):
        self.assertEqual(told([3, 0, 0, 0, 0, 3, 0]), [0, 2])

    def test_modulo_65536(self):
        body = [3, *[255] * 4, *[255] * 100]
        total = sum((index + 1) * octet for index, octet in enumerate(body))
        self.assertGreater(total, 65536)
        self.assertEqual(told(checked(body)), [0, 4])

    def test_comes_before_the_kind_and_what_follows(self):
        self.assertEqual(told([9, 0, 0, 0, 0, 0, 8]), [0, 2])
        self.assertEqual(told([1, 0, 0, 0, 0, 0, 2]), [0, 2])

    def test_seven_noughts(self):
        # Their check is right: it's their kind that is wrong.
        self.assertEqual(told([0] * 7), [0, 3])


class NoKind(Reads):
    def test_all_others(self):
        for kind in (0, *range(4, 256)):
            self.assertEqual(told(checked([kind, 0, 0, 0, 1])), [0, 3])
            self.assertEqual(told(checked([kind, 0, 0, 0, 1, 0, 0, 1])), [0, 3])

    def test_comes_before_what_follows(self):
        self.assertEqual(told(checked([4, 0, 0, 0, 1, 41])), [0, 3])
        self.assertEqual(told(checked([0, 0, 0, 0, 1, 0, 128, 0, 0])), [0, 3])


class BadEnd(Reads):
    def test_change_cut_anywhere(self):
        body = [1, 128, 137, 122, 128, 148, 235, 220, 3]
        for count in range(len(body)):
            self.wrong(4, 1, body[:count])
        self.fine([0, 1, 1000000, 1000000000], 1, body)

    def test_snapshot_cut_anywhere(self):
        body = [2, 0, 172, 2, 172, 2, 1, 3, 5]
        for count in range(len(body)):
            self.wrong(4, 2, body[:count])
        self.fine([0, 0, 150, 300, 0, 1, -2, 5], 2, body)

    def test_bytes_left(self):
        self.wrong(4, 1, [0, 0, 1, 0])
        self.wrong(4, 1, [0, 0, 1, 0, 2, 1])
        self.wrong(4, 2, [0, 0])
        self.wrong(4, 2, [1, 0, 0, 1, 0])
        self.wrong(4, 2, [1, 0, 0, 1, 0, 2, 1])
        self.wrong(4, 3, [0])
        self.wrong(4, 3, [0, 0, 1])

    def test_count_above_the_entries_there(self):
        self.wrong(4, 2, [40])
        self.wrong(4, 2, [3, 0, 0, 1, 0, 2, 1])

    def test_five_bytes_and_no_sixth(self):
        self.wrong(4, 1, [0, 128, 128, 128, 128, 128])
        self.wrong(4, 1, [0, 0, 255, 255, 255, 255, 255])
        self.wrong(4, 2, [1, 0, 128, 128, 128, 128, 128])
        self.wrong(4, 2, [1, 0, 0, 128, 128, 128, 128, 128])

    def test_comes_before_an_entry_that_is_not_whole(self):
        self.wrong(4, 1, [8])
        self.wrong(4, 1, [8, 0])
        self.wrong(4, 1, [0, 130, 137, 122])
        self.wrong(4, 2, [2, 1, 0, 1, 0, 0])


class BadNumber(Reads):
    def test_last_byte_of_nought(self):
        for number in ([128, 0], [255, 0], [128, 128, 0], [129, 129, 129, 0], [129, 129, 129, 129, 0]):
            self.wrong(5, 1, [0, *number, 1])
            self.wrong(5, 1, [0, 0, *number])
            self.wrong(5, 2, [1, 0, *number, 1])
            self.wrong(5, 2, [1, 0, 0, *number])

    def test_nought_by_itself_is_fine(self):
        self.fine([0, 0, 0, 0], 1, [0, 0, 0])
        self.fine([0, 0, 64, 128], 1, [0, 128, 1, 128, 1])

    def test_five_bytes_and_a_sixth(self):
        for sixth in (0, 1, 127, 128, 255):
            self.wrong(5, 1, [0, 128, 128, 128, 128, 128, sixth])
            self.wrong(5, 1, [0, 0, 255, 255, 255, 255, 255, sixth])
            self.wrong(5, 2, [1, 0, 0, 128, 128, 128, 128, 128, sixth])

    def test_five_bytes_are_not_too_many(self):
        self.wrong(6, 1, [0, 128, 128, 128, 128, 1, 1])
        self.fine([0, 0, 0, 268435456], 1, [0, 0, 128, 128, 128, 128, 1])
        self.wrong(6, 1, [0, 0, 255, 255, 255, 255, 127])

    def test_comes_before_the_entrys_bounds(self):
        self.wrong(5, 1, [8, 128, 0, 1])
        self.wrong(5, 1, [8, 0, 128, 0])
        self.wrong(5, 1, [0, 130, 137, 122, 129, 0])
        self.wrong(5, 2, [2, 1, 0, 1, 0, 0, 128, 0])

    def test_comes_before_bytes_left_or_wanted(self):
        self.wrong(5, 1, [0, 128, 0])
        self.wrong(5, 1, [0, 0, 128, 0, 0, 0])
        self.wrong(5, 2, [40, 0, 128, 0])


class BadEntry(Reads):
    def test_first_byte(self):
        for first in (8, 9, 128, 255):
            self.wrong(6, 1, [first, 0, 1])
            self.wrong(6, 2, [1, first, 0, 1])

    def test_price(self):
        # 1000001 and -1000001, then the greatest that five bytes hold.
        for price in ([130, 137, 122], [129, 137, 122], [254, 255, 255, 255, 127], [255, 255, 255, 255, 127]):
            self.wrong(6, 1, [0, *price, 1])
            self.wrong(6, 2, [1, 0, *price, 1])

    def test_amount(self):
        self.wrong(6, 1, [0, 0, 129, 148, 235, 220, 3])
        self.wrong(6, 2, [1, 0, 0, 129, 148, 235, 220, 3])
        self.fine([0, 0, 0, 1000000000], 2, [1, 0, 0, 128, 148, 235, 220, 3])

    def test_amount_of_nought(self):
        self.wrong(6, 2, [1, 0, 0, 0])
        self.wrong(6, 2, [2, 0, 0, 1, 1, 0, 0])
        self.fine([0, 0, 0, 0], 1, [0, 0, 0])

    def test_keys_order(self):
        first = [4, 6, 1]
        for body in ([4, 6, 1], [4, 6, 2], [4, 4, 1], [4, 5, 1], [3, 8, 1], [1, 8, 1], [0, 8, 1]):
            self.wrong(6, 2, [2, *first, *body])
        self.fine([2, 0, 3, 1, 2, 0, 4, 1], 2, [2, *first, 4, 8, 1])
        self.fine([2, 0, 3, 1, 2, 1, -3, 1], 2, [2, *first, 5, 5, 1])
        self.fine([2, 0, 3, 1, 3, 0, -3, 1], 2, [2, *first, 6, 5, 1])

    def test_prices_order_is_that_of_the_prices_not_of_the_bytes(self):
        self.fine([0, 0, -2, 1, 0, 0, -1, 1, 0, 0, 0, 1], 2, [3, 0, 3, 1, 0, 1, 1, 0, 0, 1])
        self.wrong(6, 2, [2, 0, 1, 1, 0, 3, 1])

    def test_third_key_is_looked_at_beside_the_second(self):
        self.wrong(6, 2, [3, 0, 0, 1, 0, 4, 1, 0, 2, 1])

    def test_count_above_forty(self):
        for count in (41, 128, 255):
            self.wrong(6, 2, [count])
            self.wrong(6, 2, [count, 0, 128, 0, 1])
        entries = [octet for price in range(41) for octet in (0, 2 * price, 1)]
        self.wrong(6, 2, [41, *entries])
        self.assertEqual(told_of(2, [40, *entries[:120]])[:5], [0, 0, 2, 1, 160])
        self.wrong(4, 2, [40, *entries])

    def test_comes_before_what_stands_behind_the_entry(self):
        self.wrong(6, 1, [8, 0, 1, 0])
        self.wrong(6, 2, [2, 8, 0, 1])
        self.wrong(6, 2, [2, 8, 0, 1, 0, 128, 0])
        self.wrong(6, 2, [3, 0, 0, 1, 0, 0, 1, 0])


class Rows(unittest.TestCase):
    def test_bytes_outside_0_to_255(self):
        for octet in (-1, 256, -10 ** 18, 10 ** 18):
            for place in range(3):
                octets = [0] * 3
                octets[place] = octet
                self.assertEqual(told(octets), [-1])
        self.assertEqual(told([3, 0, 0, 0, 0, 0, 259]), [-1])
        self.assertEqual(told([0, 255, 0]), [0, 1])

    def test_thousand_bytes(self):
        self.assertEqual(told([255] * 1000), [0, 2])
        self.assertEqual(told(checked([3, *[0] * 997])), [0, 4])
        self.assertEqual(told([255] * 1001), [-1])

    def test_with_and_without_a_house(self):
        octets = [3, 0, 0, 0, 0, 0, 3]
        self.assertEqual(ask(decode(octets), (OPEN, 1, 1), decode(octets)), [[0, 0, 3, 0, 0], [0], [0, 0, 3, 0, 0]])


def number_at(octets, at):
    """What is wrong with the number that begins there (0 if nothing is), the number, and where it ends."""
    part = []
    for octet in octets[at:at + 6]:
        part.append(octet)
        if octet < 128 and len(part) < 6:
            shortest = len(part) == 1 or octet > 0
            value = sum((each & 127) << 7 * index for index, each in enumerate(part))
            return 0 if shortest else 5, value, at + len(part)
    return 5 if len(part) == 6 else 4, None, None


def wrong_with(octets):
    """The document's six points once more, for bytes whose check is right and whose kind is one."""
    kind, body = octets[0], octets[5:-2]
    count, at, before = {1: 1, 2: None, 3: 0}[kind], 0, None
    if kind == 2:
        if not body:
            return 4
        count, at = body[0], 1
        if count > 40:
            return 6
    for _ in range(count):
        if at >= len(body):
            return 4
        first = body[at]
        wrong, price, at = number_at(body, at + 1)
        if wrong:
            return wrong
        wrong, amount, at = number_at(body, at)
        if wrong:
            return wrong
        key = (first, -(price + 1) // 2 if price & 1 else price // 2)
        if first > 7 or not -10 ** 6 <= key[1] <= 10 ** 6 or not (kind == 2) <= amount <= 10 ** 9:
            return 6
        if kind == 2 and before is not None and not before < key:
            return 6
        before = key
    return 4 if at < len(body) else 0


class ManyFrames(unittest.TestCase):
    """Seeded frames, near to good ones: each is read as the six points, written once more, tell."""

    def entry(self, source):
        octets = [source.choice((0, 1, 2, 7, 8))]
        for _ in range(2):
            octets += [source.choice((128, 129, 255)) for _ in range(source.choice((0, 0, 0, 1, 2, 3, 4, 5)))]
            octets.append(source.choice((0, 1, 2, 3, 3, 127)))
        return octets

    def frame(self, source):
        kind = source.choice((1, 1, 2, 2, 2, 3))
        count = {1: 1, 2: source.choice((0, 1, 2, 3)), 3: 0}[kind]
        body = [source.choice((count, count, count, count + 1, 41))] if kind == 2 else []
        for _ in range(count):
            body += self.entry(source)
        if source.randrange(6) == 0:
            body.append(source.randrange(256))
        if source.randrange(6) == 0:
            body = body[:source.randrange(len(body) + 1)]
        return checked([kind, 0, 0, 0, 9, *body])

    def test_what_is_wrong(self):
        source = random.Random(13)
        seen = {}
        for _ in range(40):
            frames = [self.frame(source) for _ in range(100)]
            for octets, answer in zip(frames, ask(*map(decode, frames))):
                self.assertEqual(answer[:2], [0, wrong_with(octets)], octets)
                seen[answer[1]] = seen.get(answer[1], 0) + 1
        self.assertEqual(sorted(seen), [0, 4, 5, 6])
        self.assertGreater(min(seen.values()), 100)

    def test_good_ones_are_written_alike(self):
        line = [(OPEN, 1, 1), *sets(20), (SNAP,), (BEAT,)]
        for place in range(22):
            octets = octets_of(*line, (FRAME, place))
            self.assertEqual(wrong_with(octets), 0)
            self.assertEqual(told(octets)[:4], [0, 0, octets[0], octets[4]])


if __name__ == "__main__":
    unittest.main()
