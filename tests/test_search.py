"""Point 25: the least and the greatest; points 2, 3 and 9 where they touch these."""

import inspect
import itertools
import unittest

from shoutline.line import heard
from shoutline.search import greatest, least
from shoutline.spans import Half, top_of
from tests.helper import DIN, GREAT_HANDS, HUSH, NOT_ON_LINE, all_sets, assert_no_hands, rows, word


# Point 25 told again: the calls behind a span that is a din, called or sure.
def behind_din(hands, span, side):
    halves = span.halves()
    answer = heard(hands, halves[side])
    row = (halves[side].shown(), answer)
    if answer == DIN:
        return [row] + behind_din(hands, halves[side], side)
    if answer == HUSH:
        return [row] + behind_din(hands, halves[1 - side], side)
    return [row]


def calls_again(hands, width, side):
    top = top_of(width)
    answer = heard(hands, top)
    book = [(top.shown(), answer)]
    return book + behind_din(hands, top, side) if answer == DIN else book


# A search on a line is the other one on the line turned about.
def turned(book, width):
    told = []
    for span, answer in book:
        low = 2**width - 2**span.bits - span.low
        told.append((f"{low}+{span.bits}", word(2**width - 1 - answer[1]) if answer[0] == "word" else answer))
    return told


class TheInterface(unittest.TestCase):
    def test_the_arguments(self):
        self.assertEqual(str(inspect.signature(least)), "(hands, width)")
        self.assertEqual(str(inspect.signature(greatest)), "(hands, width)")

    def test_the_kinds_of_the_answers(self):
        for asked in (least, greatest):
            for hands in ([], [5], [6, 1, 4]):
                told = asked(hands, 3)
                self.assertIs(type(told), tuple)
                self.assertEqual(len(told), 2)
                self.assertIs(type(told[0]), int if hands else type(None))
                self.assertIs(type(told[1]), list)
                for row in told[1]:
                    self.assertIs(type(row), tuple)
                    self.assertEqual(len(row), 2)
                    self.assertIs(type(row[0]), Half)
                    self.assertIs(type(row[1]), tuple)


class OfSearches(unittest.TestCase):
    # Hands in every order tell the same, and the list handed in stays.
    def assert_found(self, asked, hands, width, number, calls):
        for order in itertools.permutations(hands):
            handed = list(order)
            told = asked(handed, width)
            self.assertEqual(told[0], number)
            self.assertEqual(rows(told[1]), calls)
            self.assertEqual(handed, list(order))

    def assert_as_told_again(self, hands, width):
        for asked, side in ((least, 0), (greatest, 1)):
            told = asked(hands, width)
            self.assertEqual(rows(told[1]), calls_again(hands, width, side))
            self.assertLessEqual(len(told[1]), width + 1)
        self.assertEqual(least(hands, width)[0], min(hands, default=None))
        self.assertEqual(greatest(hands, width)[0], max(hands, default=None))


class RowByRow(OfSearches):
    def test_nobody(self):
        for width in (0, 1, 3, 200):
            for asked in (least, greatest):
                self.assert_found(asked, [], width, None, [(f"0+{width}", HUSH)])

    def test_one_hand(self):
        for hand, width in ((0, 0), (0, 1), (1, 1), (5, 3), (0, 200), (2**200 - 1, 200)):
            for asked in (least, greatest):
                self.assert_found(asked, [hand], width, hand, [(f"0+{width}", word(hand))])

    def test_two_on_the_line_of_one_bit(self):
        self.assert_found(least, [0, 1], 1, 0, [("0+1", DIN), ("0+0", word(0))])
        self.assert_found(greatest, [0, 1], 1, 1, [("0+1", DIN), ("1+0", word(1))])

    def test_several(self):
        self.assert_found(least, [1, 4, 6], 3, 1, [("0+3", DIN), ("0+2", word(1))])
        self.assert_found(greatest, [1, 4, 6], 3, 6, [("0+3", DIN), ("4+2", DIN), ("6+1", word(6))])

    def test_far_apart(self):
        self.assert_found(least, [0, 15], 4, 0, [("0+4", DIN), ("0+3", word(0))])
        self.assert_found(greatest, [0, 15], 4, 15, [("0+4", DIN), ("8+3", word(15))])

    def test_close_together_at_the_end(self):
        calls = [("0+3", DIN), ("0+2", HUSH), ("4+1", HUSH), ("6+0", word(6))]
        self.assert_found(least, [6, 7], 3, 6, calls)
        calls = [("0+3", DIN), ("4+2", DIN), ("6+1", DIN), ("7+0", word(7))]
        self.assert_found(greatest, [6, 7], 3, 7, calls)

    def test_close_together_at_the_beginning(self):
        calls = [("0+3", DIN), ("0+2", DIN), ("0+1", DIN), ("0+0", word(0))]
        self.assert_found(least, [0, 1], 3, 0, calls)
        calls = [("0+3", DIN), ("4+2", HUSH), ("2+1", HUSH), ("1+0", word(1))]
        self.assert_found(greatest, [0, 1], 3, 1, calls)

    def test_close_together_amid(self):
        self.assert_found(least, [3, 4], 3, 3, [("0+3", DIN), ("0+2", word(3))])
        self.assert_found(greatest, [3, 4], 3, 4, [("0+3", DIN), ("4+2", word(4))])
        calls = [("0+4", DIN), ("0+3", DIN), ("0+2", HUSH), ("4+1", DIN), ("4+0", word(4))]
        self.assert_found(least, [4, 5], 4, 4, calls)
        calls = [("0+4", DIN), ("8+3", HUSH), ("4+2", DIN), ("6+1", HUSH), ("5+0", word(5))]
        self.assert_found(greatest, [4, 5], 4, 5, calls)

    def test_a_sure_din_whose_near_half_has_a_word(self):
        self.assert_found(least, [5, 7], 3, 5, [("0+3", DIN), ("0+2", HUSH), ("4+1", word(5))])
        self.assert_found(greatest, [0, 2], 3, 2, [("0+3", DIN), ("4+2", HUSH), ("2+1", word(2))])

    def test_all_numbers_of_a_small_line(self):
        calls = [("0+2", DIN), ("0+1", DIN), ("0+0", word(0))]
        self.assert_found(least, [0, 1, 2, 3], 2, 0, calls)
        calls = [("0+2", DIN), ("2+1", DIN), ("3+0", word(3))]
        self.assert_found(greatest, [0, 1, 2, 3], 2, 3, calls)

    def test_two_hundred_bits(self):
        calls = [("0+200", DIN)] + [(f"0+{bits}", DIN) for bits in range(199, 0, -1)] + [("0+0", word(0))]
        self.assert_found(least, [0, 1], 200, 0, calls)
        self.assertEqual(len(calls), 201)
        calls = [("0+200", DIN)] + [(f"{2**bits}+{bits}", HUSH) for bits in range(199, 0, -1)] + [("1+0", word(1))]
        self.assert_found(greatest, [0, 1], 200, 1, calls)
        self.assertEqual(len(calls), 201)
        self.assert_found(least, [5, 2**200 - 1], 200, 5, [("0+200", DIN), ("0+199", word(5))])


class EverySet(OfSearches):
    def test_of_small_lines(self):
        for width in range(5):
            for hands in all_sets(width)[::11 if width == 4 else 1]:
                for more in (0, 3):
                    self.assert_as_told_again(hands[::-1], width + more)

    def test_of_great_lines(self):
        for hands in GREAT_HANDS:
            self.assert_as_told_again(hands, 200)

    def test_the_greatest_is_the_least_turned_about(self):
        for hands in all_sets(3):
            other = [7 - hand for hand in hands]
            self.assertEqual(rows(greatest(hands, 3)[1]), turned(least(other, 3)[1], 3))

    def test_at_most_width_and_1_calls(self):
        for width in range(4):
            every = all_sets(width)
            for asked in (least, greatest):
                self.assertEqual(max(len(asked(hands, width)[1]) for hands in every), width + 1)

    def test_somewhat_more_hands_are_not_refused(self):
        self.assert_as_told_again(list(range(130)), 8)


class NotOnTheLine(unittest.TestCase):
    def test_refused(self):
        for hands, width in NOT_ON_LINE:
            for asked in (least, greatest):
                with self.subTest(hands=hands, width=width):
                    assert_no_hands(self, asked, list(hands), width)


class TheAskersOwn(unittest.TestCase):
    def test_each_book_is_a_new_one(self):
        for asked in (least, greatest):
            for hands in ([], [5], [6, 7]):
                first = asked(hands, 3)
                before = rows(first[1])
                second = asked(hands, 3)
                self.assertIsNot(first[1], second[1])
                first[1].clear()
                hands.append(0)
                self.assertEqual(rows(second[1]), before)
                hands.pop()
                self.assertEqual(rows(asked(hands, 3)[1]), before)


if __name__ == "__main__":
    unittest.main()
