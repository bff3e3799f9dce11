"""Points 19 and 20: short talks, savings and right short books; points 2, 3 and 9 where they touch these."""

import inspect
import itertools
import unittest

from shoutline.errors import NoHands
from shoutline.line import heard
from shoutline.shorts import saving, short_is_right, short_talk
from shoutline.spans import Half, Open, Span, top_of
from shoutline.talks import talk, words
from shoutline.turns import turns
from tests.helper import (
    DIN,
    GREAT_HANDS,
    HUSH,
    NOT_ON_LINE,
    NOT_ON_OPEN_LINE,
    SIXTY_ONE_FIGURES,
    all_sets,
    assert_no_hands,
    rows,
    word,
)


# Point 19 told again, span within span.
def short_again(hands, span, called=True):
    answer = heard(hands, span)
    book = [(span.shown(), answer)] if called else []
    if answer == DIN:
        lower, upper = span.halves()
        book = book + short_again(hands, lower)
        book = book + short_again(hands, upper, heard(hands, lower) != HUSH)
    return book


# Point 20 told again: only the hands that it hears can have held the short talk.
def is_short_again(book, top):
    hands = sorted(set(words(book)))
    if not all(top.holds(hand) for hand in hands):
        return False
    return rows(book) == short_again(hands, top)


SOME = (
    ([], 0),
    ([0], 0),
    ([0, 1], 1),
    ([1, 4, 6], 3),
    ([6, 7], 3),
    ([0, 1], 3),
    ([4, 7], 3),
    ([2, 3, 4, 7], 3),
    ([2, 3, 6, 7, 14, 15], 4),
    ([], None),
    ([5], None),
    ([0, 1], None),
    ([1, 4, 6], None),
    ([2, 3], None),
    ([0, 5, 7, 9], None),
)

class TheInterface(unittest.TestCase):
    def test_the_arguments(self):
        self.assertEqual(str(inspect.signature(short_talk)), "(hands, top)")
        self.assertEqual(str(inspect.signature(saving)), "(hands, width)")
        self.assertEqual(str(inspect.signature(short_is_right)), "(book, top)")

    def test_the_kinds_of_the_answers(self):
        for top in (top_of(3), top_of()):
            for hands in ([], [3], [7, 5, 4]):
                book = short_talk(hands, top)
                self.assertIs(type(book), list)
                for row in book:
                    self.assertIs(type(row), tuple)
                    self.assertEqual(len(row), 2)
                    self.assertIsInstance(row[0], Span)
                    self.assertIs(type(row[1]), tuple)
                self.assertIs(type(saving(hands, 3)), int)
                self.assertIs(short_is_right(book, top), True)
                self.assertIs(short_is_right(book[:-1], top), False)


class RowByRow(unittest.TestCase):
    # Hands in every order tell the same, and the list handed in stays.
    def assert_short(self, hands, width, wanted):
        for order in itertools.permutations(hands):
            handed = list(order)
            self.assertEqual(rows(short_talk(handed, top_of(width))), wanted)
            self.assertEqual(handed, list(order))

    def assert_saving(self, hands, width, wanted):
        for order in itertools.permutations(hands):
            handed = list(order)
            self.assertEqual(saving(handed, width), wanted)
            self.assertEqual(handed, list(order))
            self.assertEqual(len(short_talk(handed, top_of(width))), turns(handed, width) - wanted)


class FromATopOfAWidth(RowByRow):
    def test_nobody(self):
        for width in (0, 1, 3, 200):
            self.assert_short([], width, [(top_of(width).shown(), HUSH)])
            self.assert_saving([], width, 0)

    def test_one_hand(self):
        for hand, width in ((0, 0), (1, 1), (5, 3), (7, 3), (2**200 - 1, 200)):
            self.assert_short([hand], width, [(top_of(width).shown(), word(hand))])
            self.assert_saving([hand], width, 0)

    def test_several_hands_without_a_hush(self):
        wanted = [
            ("0+3", DIN),
            ("0+2", word(1)),
            ("4+2", DIN),
            ("4+1", word(4)),
            ("6+1", word(6)),
        ]
        self.assert_short([1, 4, 6], 3, wanted)
        self.assert_saving([1, 4, 6], 3, 0)

    def test_one_sure_din(self):
        wanted = [
            ("0+3", DIN),
            ("0+2", HUSH),
            ("4+1", word(5)),
            ("6+1", word(7)),
        ]
        self.assert_short([5, 7], 3, wanted)
        self.assert_saving([5, 7], 3, 1)

    def test_one_sure_din_behind_another(self):
        wanted = [
            ("0+3", DIN),
            ("0+2", HUSH),
            ("4+1", HUSH),
            ("6+0", word(6)),
            ("7+0", word(7)),
        ]
        self.assert_short([6, 7], 3, wanted)
        self.assert_saving([6, 7], 3, 2)

    def test_a_sure_din_whose_lower_half_is_a_din(self):
        wanted = [
            ("0+3", DIN),
            ("0+2", HUSH),
            ("4+1", DIN),
            ("4+0", word(4)),
            ("5+0", word(5)),
            ("6+1", HUSH),
        ]
        self.assert_short([4, 5], 3, wanted)
        self.assert_saving([4, 5], 3, 1)

    def test_a_hush_of_an_upper_half_saves_nothing(self):
        wanted = [
            ("0+3", DIN),
            ("0+2", DIN),
            ("0+1", DIN),
            ("0+0", word(0)),
            ("1+0", word(1)),
            ("2+1", HUSH),
            ("4+2", HUSH),
        ]
        self.assert_short([0, 1], 3, wanted)
        self.assert_saving([0, 1], 3, 0)

    def test_a_din_behind_the_hush_of_an_upper_half_is_called(self):
        wanted = [
            ("0+3", DIN),
            ("0+2", DIN),
            ("0+1", DIN),
            ("0+0", word(0)),
            ("1+0", word(1)),
            ("2+1", HUSH),
            ("4+2", DIN),
            ("4+1", HUSH),
            ("6+0", word(6)),
            ("7+0", word(7)),
        ]
        self.assert_short([0, 1, 6, 7], 3, wanted)
        self.assert_saving([0, 1, 6, 7], 3, 1)

    def test_sure_dins_in_several_places(self):
        wanted = [
            ("0+4", DIN),
            ("0+3", DIN),
            ("0+2", DIN),
            ("0+1", HUSH),
            ("2+0", word(2)),
            ("3+0", word(3)),
            ("4+2", HUSH),
            ("8+3", DIN),
            ("8+2", HUSH),
            ("12+1", word(12)),
            ("14+1", word(15)),
        ]
        self.assert_short([2, 3, 12, 15], 4, wanted)
        self.assert_saving([2, 3, 12, 15], 4, 2)

    def test_all_numbers_of_a_small_line(self):
        self.assert_short([0, 1], 1, [("0+1", DIN), ("0+0", word(0)), ("1+0", word(1))])
        wanted = [
            ("0+2", DIN),
            ("0+1", DIN),
            ("0+0", word(0)),
            ("1+0", word(1)),
            ("2+1", DIN),
            ("2+0", word(2)),
            ("3+0", word(3)),
        ]
        self.assert_short([0, 1, 2, 3], 2, wanted)
        for width in range(6):
            hands = list(range(2**width))
            self.assertEqual(rows(short_talk(hands, top_of(width))), rows(talk(hands, top_of(width))))
            self.assertEqual(saving(hands, width), 0)

    def test_the_last_two_of_two_hundred_bits(self):
        wanted = [("0+200", DIN)]
        for bits in range(199, 0, -1):
            wanted = wanted + [(f"{2**200 - 2**(bits + 1)}+{bits}", HUSH)]
        wanted = wanted + [(f"{2**200 - 2}+0", word(2**200 - 2)), (f"{2**200 - 1}+0", word(2**200 - 1))]
        self.assert_short([2**200 - 1, 2**200 - 2], 200, wanted)
        self.assert_saving([2**200 - 1, 2**200 - 2], 200, 199)


class FromTheTopWithoutAWidth(RowByRow):
    def test_nobody(self):
        self.assert_short([], None, [("0+", HUSH)])

    def test_one_hand(self):
        for hand in (0, 1, 5, 2**200, SIXTY_ONE_FIGURES):
            self.assert_short([hand], None, [("0+", word(hand))])

    def test_0_and_another_hand(self):
        for hand in (1, 2, 7, SIXTY_ONE_FIGURES):
            self.assert_short([0, hand], None, [("0+", DIN), ("0+0", word(0)), ("1+", word(hand))])

    def test_several_hands(self):
        wanted = [
            ("0+", DIN),
            ("0+0", HUSH),
            ("1+0", word(1)),
            ("2+", DIN),
            ("2+1", HUSH),
            ("4+2", DIN),
            ("4+1", word(4)),
            ("6+1", word(6)),
            ("8+", HUSH),
        ]
        self.assert_short([1, 4, 6], None, wanted)

    def test_hands_close_together(self):
        wanted = [
            ("0+", DIN),
            ("0+0", HUSH),
            ("1+0", HUSH),
            ("2+1", HUSH),
            ("4+2", DIN),
            ("4+1", HUSH),
            ("6+0", word(6)),
            ("7+0", word(7)),
            ("8+", HUSH),
        ]
        self.assert_short([6, 7], None, wanted)

    def test_all_numbers_below_4(self):
        wanted = [
            ("0+", DIN),
            ("0+0", word(0)),
            ("1+", DIN),
            ("1+0", word(1)),
            ("2+", DIN),
            ("2+1", DIN),
            ("2+0", word(2)),
            ("3+0", word(3)),
            ("4+", HUSH),
        ]
        self.assert_short([0, 1, 2, 3], None, wanted)

    def test_great_neighbours(self):
        hands = [SIXTY_ONE_FIGURES - 1, SIXTY_ONE_FIGURES]
        book = rows(short_talk(hands[::-1], top_of()))
        self.assertEqual(book, short_again(hands, top_of()))
        # Of the open spans only the first is called, and the one behind all hands.
        self.assertEqual([text for text, answer in book if text[-1] == "+"], ["0+", f"{2**203}+"])


class EverySmallSet(unittest.TestCase):
    def test_the_short_talk_as_told_again(self):
        for width in range(5):
            for hands in all_sets(width)[::41 if width == 4 else 1]:
                for top in (top_of(width), top_of(width + 3), top_of()):
                    book = short_talk(hands[::-1], top)
                    self.assertEqual(rows(book), short_again(hands, top))
                    self.assertEqual(words(book), hands)

    def test_the_saving_against_the_talk(self):
        for width in range(5):
            for hands in all_sets(width)[::41 if width == 4 else 1]:
                for more in (0, 3):
                    top = top_of(width + more)
                    told = saving(hands[::-1], width + more)
                    dins = [span for span, answer in talk(hands, top) if answer == DIN]
                    self.assertEqual(told, len([span for span in dins if heard(hands, span.halves()[0]) == HUSH]))
                    self.assertEqual(len(short_talk(hands, top)), len(talk(hands, top)) - told)

    def test_on_great_lines(self):
        for hands in GREAT_HANDS:
            for top in (top_of(200), top_of()):
                book = short_talk(hands, top)
                self.assertEqual(rows(book), short_again(sorted(hands), top))
                self.assertEqual(words(book), sorted(hands))
            self.assertEqual(len(short_talk(hands, top_of(200))), turns(hands, 200) - saving(hands, 200))

    def test_somewhat_more_hands_are_not_refused(self):
        hands = [2 * number + 1 for number in range(130)]
        self.assertEqual(words(short_talk(hands, top_of(9))), hands)
        self.assertEqual(saving(hands, 9), 0)


class NotOnTheLine(unittest.TestCase):
    def test_from_a_top_of_a_width(self):
        for hands, width in NOT_ON_LINE:
            with self.subTest(hands=hands, width=width):
                assert_no_hands(self, short_talk, list(hands), top_of(width))
                assert_no_hands(self, saving, list(hands), width)

    def test_from_the_top_without_a_width(self):
        for hands in NOT_ON_OPEN_LINE:
            with self.subTest(hands=hands):
                assert_no_hands(self, short_talk, list(hands), top_of())

    def test_after_a_refusal_all_is_as_before(self):
        top = top_of(3)
        before = rows(short_talk([6, 7], top))
        with self.assertRaises(NoHands):
            short_talk([6, 7, 8], top)
        self.assertEqual((top.low, top.bits), (0, 3))
        self.assertEqual(rows(short_talk([6, 7], top)), before)


class TheAskersOwn(unittest.TestCase):
    def test_a_book_that_was_told_stays_as_it_is(self):
        for width in (3, None):
            hands = [1, 7, 6]
            book = short_talk(hands, top_of(width))
            before = rows(book)
            hands.append(5)
            hands[0] = 2
            short_talk(hands, top_of(width))
            talk(hands, top_of(width))
            self.assertEqual(rows(book), before)

    def test_each_book_is_a_new_one(self):
        for hands in ([], [5], [7, 6]):
            for width in (3, None):
                top = top_of(width)
                first = short_talk(hands, top)
                before = rows(first)
                second = short_talk(hands, top)
                self.assertIsNot(first, second)
                first.clear()
                self.assertEqual(rows(second), before)
                self.assertEqual(rows(short_talk(hands, top)), before)

    def test_the_top_is_not_changed(self):
        closed, unended = top_of(3), top_of()
        for asked in (short_talk, lambda hands, top: short_is_right(short_talk(hands, top), top)):
            asked([6, 7], closed)
            asked([6, 7], unended)
        self.assertTrue(closed.alike(Half(0, 3)))
        self.assertTrue(unended.alike(Open(0)))


class OfShortBooks(unittest.TestCase):
    def assert_right(self, book, top, wanted):
        before = rows(book)
        self.assertIs(short_is_right(book, top), wanted, before)
        self.assertEqual(rows(book), before)

    def assert_as_told_again(self, book, top):
        self.assert_right(book, top, is_short_again(book, top))


class RightShortBooks(OfShortBooks):
    def test_short_talks_of_every_set_of_a_small_line(self):
        for width in range(4):
            for hands in all_sets(width):
                for top in (top_of(width), top_of(width + 3), top_of()):
                    self.assert_right(short_talk(hands, top), top, True)

    def test_on_great_lines(self):
        for hands in GREAT_HANDS:
            for top in (top_of(200), top_of()):
                book = short_talk(hands, top)
                self.assert_right(book, top, True)
                self.assert_right(book[:-1], top, False)
        great = [SIXTY_ONE_FIGURES, SIXTY_ONE_FIGURES - 1]
        self.assert_right(short_talk(great, top_of()), top_of(), True)

    def test_talks_are_right_where_they_save_no_turn(self):
        kept = {True: 0, False: 0}
        for width in range(4):
            for hands in all_sets(width):
                spared = saving(hands, width) == 0
                kept[spared] += 1
                self.assert_right(talk(hands, top_of(width)), top_of(width), spared)
                if len(hands) >= 2 and 0 not in hands:
                    self.assert_right(talk(hands, top_of()), top_of(), False)
        self.assertGreater(kept[True], 40)
        self.assertGreater(kept[False], 40)
        self.assert_right(talk([0, 1, 2], top_of()), top_of(), True)
        self.assert_right(talk([0, 9], top_of()), top_of(), True)

    def test_some_of_the_sure_dins_called(self):
        book = talk([6, 7], top_of(3))
        self.assertEqual([rows(book)[2], rows(book)[4]], [("4+2", DIN), ("6+1", DIN)])
        self.assert_right(book, top_of(3), False)
        self.assert_right(book[:2] + book[3:], top_of(3), False)
        self.assert_right(book[:4] + book[5:], top_of(3), False)
        self.assert_right(book[:2] + [book[3]] + book[5:], top_of(3), True)

    def test_spans_need_only_be_alike(self):
        book = [(Half(0, 2), DIN), (Half(0, 1), HUSH), (Half(2, 0), word(2)), (Half(3, 0), word(3))]
        self.assert_right(book, top_of(2), True)
        book = [(Open(0), DIN), (Half(0, 0), HUSH), (Half(1, 0), word(1)), (Open(2), word(9))]
        self.assert_right(book, top_of(), True)

    def test_a_short_talk_from_another_top(self):
        for hands in ([], [1], [1, 3], [2, 3]):
            for width in (2, 4, None):
                self.assert_right(short_talk(hands, top_of(3)), top_of(width), False)
                self.assert_right(short_talk(hands, top_of(width)), top_of(3), False)

    def test_a_book_of_sixty_thousand_rows(self):
        # With 2 and 3 of each four, every quad is a din, a hush and two words.
        hands = [number for number in range(30_000) if number & 2]
        book = short_talk(hands, top_of(15))
        self.assertGreater(len(book), 37_000)
        self.assert_right(book, top_of(15), True)
        self.assert_right(book[:-1], top_of(15), False)
        hands = list(range(2**15 - 2768))
        book = short_talk(hands, top_of(15))
        self.assertGreater(len(book), 59_000)
        self.assert_right(book, top_of(15), True)


class WrongShortBooks(OfShortBooks):
    def test_the_book_of_no_rows(self):
        for width in (0, 1, 3, 200, None):
            self.assert_right([], top_of(width), False)

    def test_beginnings(self):
        for width in range(4):
            for hands in all_sets(width):
                for top in (top_of(width), top_of()):
                    book = short_talk(hands, top)
                    for size in range(len(book)):
                        self.assert_right(book[:size], top, False)

    def test_a_row_more(self):
        for hands, width in SOME:
            top = top_of(width)
            book = short_talk(hands, top)
            for row in (book[0], book[-1], (Half(0, 0), HUSH), (Half(8, 3), HUSH), (Half(8, 3), DIN), (Open(8), HUSH)):
                self.assert_right(book + [row], top, False)
                self.assert_right(book + [row, row], top, False)
            self.assert_right(book + book, top, False)

    def test_a_row_left_out(self):
        for hands, width in SOME:
            book = short_talk(hands, top_of(width))
            for place in range(len(book)):
                self.assert_right(book[:place] + book[place + 1:], top_of(width), False)

    def test_a_row_told_twice(self):
        for hands, width in SOME:
            book = short_talk(hands, top_of(width))
            for place in range(len(book)):
                self.assert_right(book[:place + 1] + book[place:], top_of(width), False)

    def test_a_row_put_elsewhere(self):
        for hands, width in SOME:
            book = short_talk(hands, top_of(width))
            for place in range(len(book)):
                rest = book[:place] + book[place + 1:]
                for other in range(len(book)):
                    changed = rest[:other] + [book[place]] + rest[other:]
                    self.assert_right(changed, top_of(width), other == place)

    def test_two_rows_exchanged(self):
        for hands, width in SOME:
            book = short_talk(hands, top_of(width))
            for place in range(len(book)):
                for other in range(place):
                    changed = list(book)
                    changed[place] = book[other]
                    changed[other] = book[place]
                    self.assert_right(changed, top_of(width), False)

    def test_another_span(self):
        spans = [Half(low, bits) for bits in range(5) for low in range(0, 16, 2**bits)]
        spans = spans + [Open(low) for low in (0, 1, 2, 4, 8, 16)]
        for hands, width in SOME:
            book = short_talk(hands, top_of(width))
            for place in range(len(book)):
                for span in spans:
                    if not span.alike(book[place][0]):
                        changed = book[:place] + [(span, book[place][1])] + book[place + 1:]
                        self.assert_right(changed, top_of(width), False)

    def test_something_else_heard(self):
        for hands, width in SOME:
            book = short_talk(hands, top_of(width))
            for place in range(len(book)):
                for answer in [HUSH, DIN] + [word(number) for number in range(-1, 17)]:
                    changed = book[:place] + [(book[place][0], answer)] + book[place + 1:]
                    self.assert_as_told_again(changed, top_of(width))

    def test_a_word_beyond_its_span(self):
        for number in (-1, 8, 9, 2**200, SIXTY_ONE_FIGURES, -SIXTY_ONE_FIGURES):
            self.assert_right([(Half(0, 3), word(number))], top_of(3), False)
        self.assert_right([(Half(0, 0), word(1))], top_of(0), False)
        self.assert_right([(Open(0), word(-1))], top_of(), False)
        book = short_talk([5, 7], top_of(3))
        self.assertEqual(rows(book)[2:], [("4+1", word(5)), ("6+1", word(7))])
        self.assert_right(book[:2] + [(Half(4, 1), word(4)), (Half(6, 1), word(6))], top_of(3), True)
        for number in (-1, 0, 3, 6, 7, 8):
            self.assert_right(book[:2] + [(Half(4, 1), word(number)), book[3]], top_of(3), False)
        for number in (-1, 0, 4, 5, 8):
            self.assert_right(book[:3] + [(Half(6, 1), word(number))], top_of(3), False)


class TwoWordsBehindEachDin(OfShortBooks):
    def test_behind_a_din_of_one_bit_no_hush_of_its_lower_half(self):
        for tail in ([], [(Half(1, 0), word(1))], [(Half(1, 0), DIN)], [(Half(1, 0), HUSH)]):
            self.assert_right([(Half(0, 1), DIN), (Half(0, 0), HUSH)] + tail, top_of(1), False)
        # The din of 2+1 is sure, and not called.
        book = [(Half(0, 2), DIN), (Half(0, 1), HUSH)]
        for tail in ([], [(Half(3, 0), word(3))], [(Half(3, 0), DIN)], [(Half(3, 0), HUSH)]):
            self.assert_right(book + [(Half(2, 0), HUSH)] + tail, top_of(2), False)
        self.assert_right(book + [(Half(2, 0), word(2)), (Half(3, 0), word(3))], top_of(2), True)
        book = [(Open(0), DIN), (Half(0, 0), HUSH), (Half(1, 0), HUSH), (Half(2, 1), DIN), (Half(2, 0), HUSH)]
        for tail in ([], [(Open(4), HUSH)], [(Half(3, 0), word(3)), (Open(4), HUSH)]):
            self.assert_right(book + tail, top_of(), False)

    def test_behind_one_word_no_hush(self):
        book = [(Half(0, 2), DIN), (Half(0, 1), HUSH), (Half(2, 0), word(2)), (Half(3, 0), HUSH)]
        self.assert_right(book, top_of(2), False)
        book = [(Half(0, 3), DIN), (Half(0, 2), word(1)), (Half(4, 2), HUSH)]
        self.assert_right(book, top_of(3), False)
        book = [(Open(0), DIN), (Half(0, 0), HUSH), (Half(1, 0), word(1)), (Open(2), HUSH)]
        self.assert_right(book, top_of(), False)

    def test_no_din_of_no_bits(self):
        self.assert_right([(Half(0, 0), DIN)], top_of(0), False)
        self.assert_right([(Half(0, 0), DIN), (Half(0, 0), HUSH)], top_of(0), False)
        self.assert_right([(Half(0, 1), DIN), (Half(0, 0), DIN), (Half(1, 0), word(1))], top_of(1), False)
        self.assert_right([(Half(0, 1), DIN), (Half(0, 0), word(0)), (Half(1, 0), DIN)], top_of(1), False)
        self.assert_right([(Open(0), DIN), (Half(0, 0), DIN), (Open(1), word(1))], top_of(), False)

    def test_hushes_alone(self):
        book = [(Half(0, 2), DIN), (Half(0, 1), HUSH), (Half(2, 1), HUSH)]
        self.assert_right(book, top_of(2), False)
        book = [(Open(0), DIN), (Half(0, 0), HUSH)]
        for bits in range(205):
            book.append((Half(2**bits, bits), HUSH))
            self.assert_right(book, top_of(), False)


class EveryShortBook(OfShortBooks):
    def assert_every_book(self, top, spans, answers, size):
        every = [(span, answer) for span in spans for answer in answers]
        for count in range(size + 1):
            for book in itertools.product(every, repeat=count):
                self.assert_as_told_again(list(book), top)

    def test_on_the_line_of_one_number(self):
        answers = [HUSH, DIN, word(-1), word(0), word(1)]
        self.assert_every_book(top_of(0), [Half(0, 0), Half(1, 0), Half(0, 1), Open(0)], answers, 3)

    def test_on_the_line_of_two_numbers(self):
        answers = [HUSH, DIN, word(0), word(1)]
        self.assert_every_book(top_of(1), [Half(0, 1), Half(0, 0), Half(1, 0)], answers, 4)

    def test_on_the_open_line(self):
        answers = [HUSH, DIN, word(0), word(1), word(2)]
        self.assert_every_book(top_of(), [Open(0), Half(0, 0), Open(1), Half(1, 0), Open(2)], answers, 3)

    def test_every_row_behind_every_beginning(self):
        top = top_of(2)
        spans = [Half(low, bits) for bits in range(3) for low in range(0, 4, 2**bits)]
        answers = [HUSH, DIN] + [word(number) for number in range(-1, 5)]
        begun = {}
        for hands in all_sets(2):
            book = short_talk(hands, top)
            for size in range(len(book) + 1):
                begun[tuple(rows(book[:size]))] = book[:size]
        for book in begun.values():
            for span in spans:
                for answer in answers:
                    self.assert_as_told_again(book + [(span, answer)], top)


class NothingIsKept(OfShortBooks):
    def test_a_book_may_be_changed_between(self):
        book = short_talk([1, 6, 7], top_of(3))
        last = book.pop()
        self.assert_right(book, top_of(3), False)
        book.append(last)
        self.assert_right(book, top_of(3), True)
        book.append(last)
        self.assert_right(book, top_of(3), False)


if __name__ == "__main__":
    unittest.main()
