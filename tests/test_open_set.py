import unittest

from tests.helper import BEAT, BOOK, BURST, DELIVER, FRAME, MEMBER, OPEN, SET, SNAP, VIEW
from tests.helper import ask, last, sets


def forty():
    """Forty levels, ten of each book."""
    return [(SET, place % 4, place % 2, place, 1) for place in range(40)]


class Open(unittest.TestCase):
    def test_answers_nothing_more(self):
        self.assertEqual(ask((OPEN, 1, 1), (OPEN, 4, 4)), [[0], [0]])

    def test_house_at_first(self):
        told = ask((OPEN, 2, 2), (BOOK, 0), (BOOK, 1), (MEMBER, 0), (MEMBER, 1), (VIEW, 0), (VIEW, 1), (FRAME, 0))
        nobody = [0, 0, 0, 0, 0]
        self.assertEqual(told[1:], [[0, 0, 0], [0, 0, 0], nobody, nobody, [0, 0, 0], [0, 0, 0], [-4]])

    def test_counts_of_books_and_members(self):
        for count in (1, 2, 3, 4):
            books = ask((OPEN, count, 1), *[(BOOK, book) for book in range(4)])[1:]
            self.assertEqual([answer[0] for answer in books], [0] * count + [-3] * (4 - count))
            members = ask((OPEN, 1, count), *[(VIEW, member) for member in range(4)])[1:]
            self.assertEqual([answer[0] for answer in members], [0] * count + [-3] * (4 - count))

    def test_what_was_there_is_gone(self):
        line = [(OPEN, 2, 2), *sets(3), (SNAP,), (BEAT,), (BURST, 0, 0, 4), (DELIVER, 1, 2), (OPEN, 1, 1)]
        told = ask(*line, (BOOK, 0), (MEMBER, 0), (VIEW, 0), (FRAME, 0), (BOOK, 1), (MEMBER, 1), (SET, 0, 0, 5, 3))
        self.assertEqual(told[len(line):], [[0, 0, 0], [0, 0, 0, 0, 0], [0, 0, 0], [-4], [-3], [-3], [0, 1, 0]])

    def test_open_anew_makes_room(self):
        line = [(OPEN, 1, 1)] + [(BEAT,)] * 160 + [(BEAT,), (OPEN, 1, 1), (BEAT,)]
        self.assertEqual(ask(*line)[-3:], [[-5], [0], [0, 0]])


class Set(unittest.TestCase):
    def test_number_and_place(self):
        told = ask((OPEN, 1, 1), (SET, 0, 0, 1, 5), (BEAT,), (SNAP,), (SET, 0, 1, 1, 5), (SET, 0, 0, 1, 6))
        self.assertEqual(told[1], [0, 1, 0])
        self.assertEqual(told[4], [0, 2, 3])
        self.assertEqual(told[5], [0, 3, 4])

    def test_level_gets_the_amount(self):
        told = ask((OPEN, 2, 1), (SET, 1, 0, 7, 5), (BOOK, 1), (SET, 1, 0, 7, 2), (BOOK, 1), (BOOK, 0))
        self.assertEqual(told[2], [0, 0, 2, 7, 5])
        self.assertEqual(told[4], [0, 0, 2, 7, 2])
        self.assertEqual(told[5], [0, 0, 0])

    def test_amount_of_zero_takes_the_level_away(self):
        told = ask((OPEN, 1, 1), (SET, 0, 0, 7, 5), (SET, 0, 0, 8, 5), (SET, 0, 0, 7, 0), (BOOK, 0), (SET, 0, 0, 7, 0))
        self.assertEqual(told[3:], [[0, 3, 2], [0, 0, 2, 8, 5], [-7]])

    def test_keys_differ_by_book_side_and_price(self):
        line = [(OPEN, 2, 1), (SET, 0, 0, 7, 5), (SET, 1, 0, 7, 5), (SET, 0, 1, 7, 5), (SET, 0, 0, -7, 5)]
        self.assertEqual([answer[1] for answer in ask(*line)[1:]], [1, 2, 3, 4])

    def test_nothing_comes_to_members_by_itself(self):
        self.assertEqual(ask((OPEN, 1, 1), (SET, 0, 0, 7, 5), (MEMBER, 0), (VIEW, 0))[2:], [[0, 0, 0, 0, 0], [0, 0, 0]])

    def test_same_amount(self):
        line = [(OPEN, 1, 1), (SET, 0, 0, 7, 5)]
        self.assertEqual(last(*line, (SET, 0, 0, 7, 5)), [-7])
        self.assertEqual(last(*line, (SET, 0, 0, 8, 0)), [-7])
        self.assertEqual(last(*line, (SET, 0, 0, 7, 4)), [0, 2, 1])
        self.assertEqual(last(*line, (SET, 0, 0, 7, 6)), [0, 2, 1])

    def test_forty_levels_over_all_books(self):
        line = [(OPEN, 4, 1), *forty()]
        self.assertEqual(last(*line), [0, 40, 39])
        for book in range(4):
            self.assertEqual(last(*line, (SET, book, 0, 1000, 1)), [-6])
        self.assertEqual(last(*line, (SET, 0, 1, 0, 1)), [-6])

    def test_forty_levels_and_one_of_this_key(self):
        line = [(OPEN, 4, 1), *forty()]
        self.assertEqual(last(*line, (SET, 3, 1, 39, 2)), [0, 41, 40])
        self.assertEqual(last(*line, (SET, 3, 1, 39, 0)), [0, 41, 40])
        self.assertEqual(last(*line, (SET, 3, 1, 39, 0), (SET, 0, 0, 1000, 1)), [0, 42, 41])
        self.assertEqual(last(*line, (SET, 3, 1, 39, 0), (SET, 0, 0, 1000, 1), (SET, 3, 1, 39, 1)), [-6])

    def test_120_changes(self):
        line = [(OPEN, 1, 1), *sets(120)]
        self.assertEqual(last(*line), [0, 120, 119])
        self.assertEqual(last(*line, (SET, 0, 0, 5, 500)), [-5])
        self.assertEqual(last(*line, (SET, 0, 0, 5, 0)), [-5])
        self.assertEqual(last(*line, (BEAT,)), [0, 120])

    def test_160_frames(self):
        line = [(OPEN, 1, 1), *[(BEAT,)] * 159]
        self.assertEqual(last(*line, (SET, 0, 0, 5, 1)), [0, 1, 159])
        self.assertEqual(last(*line, (SET, 0, 0, 5, 1), (SET, 0, 0, 5, 2)), [-5])
        self.assertEqual(last(*line, (BEAT,), (SET, 0, 0, 5, 1)), [-5])

    def test_no_book_comes_first(self):
        self.assertEqual(last((OPEN, 1, 1), (SET, 1, 0, 5, 0)), [-3])
        self.assertEqual(last((OPEN, 1, 1), *[(BEAT,)] * 160, (SET, 1, 0, 5, 1)), [-3])
        self.assertEqual(last((OPEN, 3, 1), *[(SET, 0, 0, price, 1) for price in range(40)], (SET, 3, 0, 5, 1)), [-3])

    def test_same_amount_comes_before_too_many_levels(self):
        self.assertEqual(last((OPEN, 4, 1), *forty(), (SET, 0, 0, 1000, 0)), [-7])

    def test_same_amount_and_too_many_levels_come_before_full(self):
        line = [(OPEN, 4, 1), *forty(), *[(BEAT,)] * 120]
        self.assertEqual(last(*line), [0, 159])
        self.assertEqual(last(*line, (SET, 0, 0, 0, 1)), [-7])
        self.assertEqual(last(*line, (SET, 0, 0, 1000, 0)), [-7])
        self.assertEqual(last(*line, (SET, 0, 0, 1000, 1)), [-6])
        self.assertEqual(last(*line, (SET, 0, 0, 0, 2)), [-5])


if __name__ == "__main__":
    unittest.main()
