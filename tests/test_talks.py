"""Point 11 and the words of point 12; points 2, 3 and 9 where they touch these."""

import inspect
import itertools
import unittest

from shoutline.errors import NoHands
from shoutline.line import heard
from shoutline.spans import Half, Open, Span, top_of
from shoutline.talks import talk, words
from tests.helper import (
    DIN,
    HUSH,
    NOT_ON_LINE,
    NOT_ON_OPEN_LINE,
    SIXTY_ONE_FIGURES,
    all_sets,
    assert_no_hands,
    rows,
    word,
)


# Point 11 told again, span within span.
def told_again(hands, span):
    answer = heard(hands, span)
    book = [(span.shown(), answer)]
    if answer == DIN:
        lower, upper = span.halves()
        book = book + told_again(hands, lower) + told_again(hands, upper)
    return book


class TheInterface(unittest.TestCase):
    def test_the_arguments(self):
        self.assertEqual(str(inspect.signature(talk)), "(hands, top)")
        self.assertEqual(str(inspect.signature(words)), "(book)")

    def test_the_kinds_of_the_answers(self):
        for top in (top_of(3), top_of()):
            book = talk([6, 1, 4], top)
            self.assertIs(type(book), list)
            for row in book:
                self.assertIs(type(row), tuple)
                self.assertEqual(len(row), 2)
                self.assertIsInstance(row[0], Span)
                self.assertIs(type(row[1]), tuple)
            self.assertIs(type(words(book)), list)
            self.assertEqual([type(number) for number in words(book)], [int, int, int])


class RowByRow(unittest.TestCase):
    # Hands in every order tell the same talk, and the list handed in stays.
    def assert_talk(self, hands, width, wanted):
        for order in itertools.permutations(hands):
            handed = list(order)
            self.assertEqual(rows(talk(handed, top_of(width))), wanted)
            self.assertEqual(handed, list(order))


class FromATopOfAWidth(RowByRow):
    def test_nobody(self):
        for width in (0, 1, 3, 200):
            self.assert_talk([], width, [(top_of(width).shown(), HUSH)])

    def test_one_hand(self):
        self.assert_talk([0], 0, [("0+0", word(0))])
        self.assert_talk([1], 1, [("0+1", word(1))])
        self.assert_talk([5], 3, [("0+3", word(5))])
        self.assert_talk([2**200 - 1], 200, [("0+200", word(2**200 - 1))])

    def test_two_hands_far_apart(self):
        self.assert_talk([0, 7], 3, [("0+3", DIN), ("0+2", word(0)), ("4+2", word(7))])
        self.assert_talk([3, 4], 3, [("0+3", DIN), ("0+2", word(3)), ("4+2", word(4))])

    def test_several_hands(self):
        wanted = [
            ("0+3", DIN),
            ("0+2", word(1)),
            ("4+2", DIN),
            ("4+1", word(4)),
            ("6+1", word(6)),
        ]
        self.assert_talk([1, 4, 6], 3, wanted)

    def test_all_that_comes_of_the_lower_half_goes_ahead_of_the_upper_one(self):
        wanted = [
            ("0+4", DIN),
            ("0+3", DIN),
            ("0+2", DIN),
            ("0+1", word(1)),
            ("2+1", word(2)),
            ("4+2", HUSH),
            ("8+3", DIN),
            ("8+2", word(9)),
            ("12+2", word(14)),
        ]
        self.assert_talk([1, 2, 9, 14], 4, wanted)

    def test_hands_close_together_at_the_end(self):
        wanted = [
            ("0+3", DIN),
            ("0+2", HUSH),
            ("4+2", DIN),
            ("4+1", HUSH),
            ("6+1", DIN),
            ("6+0", word(6)),
            ("7+0", word(7)),
        ]
        self.assert_talk([6, 7], 3, wanted)

    def test_hands_close_together_at_the_beginning(self):
        wanted = [
            ("0+3", DIN),
            ("0+2", DIN),
            ("0+1", DIN),
            ("0+0", word(0)),
            ("1+0", word(1)),
            ("2+1", HUSH),
            ("4+2", HUSH),
        ]
        self.assert_talk([0, 1], 3, wanted)

    def test_all_numbers_of_a_small_line(self):
        self.assert_talk([0, 1], 1, [("0+1", DIN), ("0+0", word(0)), ("1+0", word(1))])
        wanted = [
            ("0+2", DIN),
            ("0+1", DIN),
            ("0+0", word(0)),
            ("1+0", word(1)),
            ("2+1", DIN),
            ("2+0", word(2)),
            ("3+0", word(3)),
        ]
        self.assert_talk([0, 1, 2, 3], 2, wanted)

    def test_two_neighbours_on_a_line_of_two_hundred_bits(self):
        wanted = [("0+200", DIN)]
        for bits in range(199, 0, -1):
            wanted = wanted + [("0+" + str(bits), DIN)]
        wanted = wanted + [("0+0", word(0)), ("1+0", word(1))]
        for bits in range(1, 200):
            wanted = wanted + [(str(2**bits) + "+" + str(bits), HUSH)]
        self.assert_talk([0, 1], 200, wanted)


class FromTheTopWithoutAWidth(RowByRow):
    def test_nobody(self):
        self.assert_talk([], None, [("0+", HUSH)])

    def test_one_hand(self):
        for hand in (0, 1, 5, 2**200, SIXTY_ONE_FIGURES):
            self.assert_talk([hand], None, [("0+", word(hand))])

    def test_0_and_another_hand(self):
        for hand in (1, 2, 7, SIXTY_ONE_FIGURES):
            self.assert_talk([0, hand], None, [("0+", DIN), ("0+0", word(0)), ("1+", word(hand))])

    def test_several_hands(self):
        wanted = [
            ("0+", DIN),
            ("0+0", HUSH),
            ("1+", DIN),
            ("1+0", word(1)),
            ("2+", DIN),
            ("2+1", HUSH),
            ("4+", DIN),
            ("4+2", DIN),
            ("4+1", word(4)),
            ("6+1", word(6)),
            ("8+", HUSH),
        ]
        self.assert_talk([1, 4, 6], None, wanted)

    def test_hands_close_together(self):
        wanted = [
            ("0+", DIN),
            ("0+0", HUSH),
            ("1+", DIN),
            ("1+0", HUSH),
            ("2+", DIN),
            ("2+1", DIN),
            ("2+0", word(2)),
            ("3+0", word(3)),
            ("4+", word(4)),
        ]
        self.assert_talk([2, 3, 4], None, wanted)

    def test_great_neighbours(self):
        book = talk([SIXTY_ONE_FIGURES, SIXTY_ONE_FIGURES - 1], top_of())
        self.assertEqual(rows(book), told_again([SIXTY_ONE_FIGURES - 1, SIXTY_ONE_FIGURES], Open(0)))
        self.assertEqual(words(book), [SIXTY_ONE_FIGURES - 1, SIXTY_ONE_FIGURES])
        # The first din of a half is the one in which the great numbers begin.
        dins = [span for span, answer in book if answer == DIN]
        self.assertEqual([span.shown() for span in dins if isinstance(span, Half)][0], f"{2**202}+202")


class EverySmallSet(unittest.TestCase):
    def test_the_talk_as_told_again(self):
        for width in range(5):
            for hands in all_sets(width)[::7 if width == 4 else 1]:
                for top in (top_of(width), top_of()):
                    self.assertEqual(rows(talk(hands[::-1], top)), told_again(hands, top))

    def test_each_hand_is_heard_just_once_in_the_order_of_the_numbers(self):
        for hands in all_sets(3):
            for top in (top_of(3), top_of(9), top_of()):
                self.assertEqual(words(talk(hands[::-1], top)), hands)

    def test_a_hundred_and_twenty_hands(self):
        for hands in ([3 * number for number in range(120)], [2**190 * number + 5 for number in range(120)]):
            for top in (top_of(200), top_of()):
                book = talk(hands[60:] + hands[:60], top)
                self.assertEqual(words(book), hands)
                self.assertEqual(rows(book), told_again(hands, top))

    def test_somewhat_more_hands_are_not_refused(self):
        self.assertEqual(words(talk(list(range(130)), top_of(8))), list(range(130)))


class NotOnTheLine(unittest.TestCase):
    def test_from_a_top_of_a_width(self):
        for hands, width in NOT_ON_LINE:
            with self.subTest(hands=hands, width=width):
                assert_no_hands(self, talk, list(hands), top_of(width))

    def test_from_the_top_without_a_width(self):
        for hands in NOT_ON_OPEN_LINE:
            with self.subTest(hands=hands):
                assert_no_hands(self, talk, list(hands), top_of())

    def test_after_a_refusal_all_is_as_before(self):
        top = top_of(3)
        before = rows(talk([1, 2], top))
        with self.assertRaises(NoHands):
            talk([1, 2, 8], top)
        self.assertEqual((top.low, top.bits), (0, 3))
        self.assertEqual(rows(talk([1, 2], top)), before)


class TheAskersOwn(unittest.TestCase):
    def test_a_book_that_was_told_stays_as_it_is(self):
        for width in (3, None):
            hands = [1, 6, 4]
            book = talk(hands, top_of(width))
            before = rows(book)
            hands.append(7)
            hands[0] = 2
            talk(hands, top_of(width))
            self.assertEqual(rows(book), before)

    def test_each_book_is_a_new_one(self):
        for hands in ([], [5], [1, 6, 4]):
            for width in (3, None):
                top = top_of(width)
                first = talk(hands, top)
                before = rows(first)
                second = talk(hands, top)
                self.assertIsNot(first, second)
                first.clear()
                self.assertEqual(rows(second), before)
                self.assertEqual(rows(talk(hands, top)), before)

    def test_words_are_a_new_list(self):
        book = talk([1, 6, 4], top_of(3))
        before = rows(book)
        first = words(book)
        second = words(book)
        first.append(7)
        self.assertEqual(second, [1, 4, 6])
        self.assertEqual(words(book), [1, 4, 6])
        book.clear()
        self.assertEqual(second, [1, 4, 6])
        self.assertEqual(rows(talk([1, 6, 4], top_of(3))), before)

    def test_the_top_is_not_changed(self):
        closed, unended = top_of(3), top_of()
        talk([0, 1, 7], closed)
        talk([0, 1, 7], unended)
        self.assertTrue(closed.alike(Half(0, 3)))
        self.assertTrue(unended.alike(Open(0)))


class TheWords(unittest.TestCase):
    def test_of_talks(self):
        self.assertEqual(words(talk([], top_of(3))), [])
        self.assertEqual(words(talk([5], top_of(3))), [5])
        self.assertEqual(words(talk([7, 0, 5], top_of(3))), [0, 5, 7])
        self.assertEqual(words(talk([7, 0, 5], top_of())), [0, 5, 7])

    def test_of_no_rows(self):
        self.assertEqual(words([]), [])

    def test_of_books_that_are_no_talks(self):
        self.assertEqual(words([(Half(0, 3), DIN), (Open(4), HUSH), (Half(0, 3), DIN)]), [])
        book = [
            (Half(8, 3), word(9)),
            (Half(0, 0), HUSH),
            (Open(0), word(2)),
            (Half(0, 0), DIN),
            (Half(8, 3), word(9)),
            (Half(4, 1), word(SIXTY_ONE_FIGURES)),
            (Half(0, 0), word(0)),
            (Open(8), word(-3)),
        ]
        before = rows(book)
        self.assertEqual(words(book), [9, 2, 9, SIXTY_ONE_FIGURES, 0, -3])
        self.assertEqual(rows(book), before)


if __name__ == "__main__":
    unittest.main()
