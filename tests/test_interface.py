import unittest

from bookfeed.desk import answers
from tests.helper import AT, BACK, BEAT, BOOK, BURST, CRASH, DELIVER, DRAIN, FRAME, JOIN, MEMBER, OPEN, PENDING, RESET
from tests.helper import SET, SLOW, SNAP, STATE, TOP, VIEW
from tests.helper import ask, decode, feed, flat, sets

FAR = 10 ** 18
LINE = [(BEAT,), (OPEN, 2, 2), *sets(12), (SNAP,), (BEAT,), (FRAME, 12), (DELIVER, 0, 0), (BURST, 0, 2, 9),
        (BACK, 1, 0, 5), (VIEW, 0), (VIEW, 1), (MEMBER, 0), (MEMBER, 1), (BOOK, 0), (BOOK, 3), (SET, 9, 9, 9, 9)]
BEAT_FRAME = [3, 0, 0, 0, 12, 0, 63]
LINE += [(JOIN, 1), (SET, 1, 1, 3, 4), (PENDING, 1), (DRAIN, 1, 1), (SLOW, 1), (TOP, 0, 0), (AT, 7), (CRASH, 0),
         decode(BEAT_FRAME), decode([256]), feed([0, 7, *BEAT_FRAME, 0]), (OPEN, 1, 1), feed([0, 255, 255]), (STATE,)]
LINE += [(RESET,), feed([0]), (JOIN, 0), (SET, 0, 1, 7, 7), (STATE,)]


class Watched(list):
    """A list that tells if anything is changed in it."""

    def refuse(self, *args, **kwargs):
        raise AssertionError("the list that was handed in was changed")

    __setitem__ = __delitem__ = __iadd__ = __imul__ = refuse
    append = extend = insert = pop = remove = clear = reverse = sort = refuse


class Interface(unittest.TestCase):
    def test_answers_stand_one_behind_another(self):
        calls = [3, 0, 1, 1, 1, 0, 1, -2, 300, 1, 0, 1, -2, 300, 3, 8, 0]
        self.assertEqual(answers(calls), [1, -2, 1, 0, 3, 0, 1, 0, 1, -7, 2, 0, 1, 3, 0, 0, 0])

    def test_one_call(self):
        self.assertEqual(answers([2]), [1, -2])
        self.assertEqual(answers([0, 1, 1]), [1, 0])

    def test_answers_are_a_list_of_whole_numbers(self):
        told = answers(flat(LINE))
        self.assertEqual({type(told)}, {list})
        self.assertEqual({type(number) for number in told}, {int})

    def test_line_uses_all_calls(self):
        self.assertEqual({call[0] for call in LINE}, set(range(22)))

    def test_lines_answers(self):
        told = ask(*LINE)
        behind = LINE.index((JOIN, 1))
        self.assertEqual(told[behind:], [
            [0, 1], [0, 13, 14], [0, 6, 0, 0, 5, 1, 1, 3], [0, 1, 4, 0, 0, 5, 12], [0, 4, 0, 0, 5, 12], [0, 0, 0, 5, 1],
            [0, 4, 0, 0, 5, 7], [0], [0, 0, 3, 12, 0], [-1], [0, 0, 1, 3, 0, 3, 12], [0], [0, 1, 0, 3, 1, 0, 0],
            [0, 1, 0, 0, 0, 1, 0], [0], [0, 0, 1, 0], [0, 0], [0, 1, 0], [0, 1, 1, 1, 4, 0, 1, 7, 7, 1, 0],
        ])

    def test_list_is_the_same_afterwards(self):
        calls = flat(LINE)
        answers(calls)
        self.assertEqual(calls, flat(LINE))

    def test_list_is_not_changed_for_a_while_either(self):
        self.assertEqual(answers(Watched(flat(LINE))), answers(flat(LINE)))

    def test_second_run_gives_the_same(self):
        calls = flat(LINE)
        first = answers(calls)
        self.assertEqual(answers(calls), first)
        self.assertEqual(answers([3]), [1, -2])
        self.assertEqual(answers([18, 2, 255, 255]), [4, 0, 1, 0, 0])
        self.assertEqual(answers(calls), first)

    def test_answers_are_the_callers_own(self):
        first = answers(flat(LINE))
        kept = list(first)
        first.clear()
        self.assertEqual(answers(flat(LINE)), kept)

    def test_each_call_is_gone_past_whole(self):
        # A number so far out is no call's place: a call taken too short or too long would show.
        for place, count in enumerate((2, 4, 0, 0, 1, 2, 3, 3, 1, 1, 1, 2, 1, None, 1, 2, 1, 1, None, 0, 1, 0)):
            numbers = [3, FAR, FAR, FAR] if count is None else [FAR] * count
            with self.subTest(place=place):
                told = answers([place, *numbers, SNAP])
                self.assertEqual(told[1 + told[0]:], [1, -2])

    def test_longest_line(self):
        line = [(OPEN, 1, 1), *[(SET, 0, 0, price, 1000000000) for price in range(-1000000, -999960)]]
        line += [(SNAP,)] * 119 + [(FRAME, 158)] * 20 + [(BURST, 0, 0, 158)] * 20
        self.assertEqual(len(line), 200)
        self.assertEqual(answers(flat(line))[-5:], [4, 0, 40, 0, 0])


if __name__ == "__main__":
    unittest.main()
