"""Points 12 and 13: right books and cuts; point 2 where it touches these."""

import inspect
import unittest

from shoutline.books import cut, is_right
from shoutline.errors import NoHands
from shoutline.spans import Half, Open, top_of
from shoutline.talks import talk, words
from tests.helper import DIN, HUSH, SIXTY_ONE_FIGURES, all_sets, rows, word

ROOM = 32


# Whether some right book begins with these rows. If some hands shout so, then
# these do too: the words, and whoever is not silenced by a hush or a word. On
# the open line the numbers below ROOM stand for all, so the tests call no
# open span from beyond ROOM // 4.
def can_begin(book, top):
    silent = [span for span, answer in book if answer != DIN]
    everybody = [number for number in range(ROOM) if top.holds(number)]
    loud = [number for number in everybody if not any(span.holds(number) for span in silent)]
    hands = sorted(set(loud) | set(words(book)))
    try:
        told = talk(hands, top)
    except NoHands:
        return False
    return rows(told)[:len(book)] == rows(book)


def is_talk(book, top):
    try:
        told = talk(sorted(set(words(book))), top)
    except NoHands:
        return False
    return rows(told) == rows(book)


# Point 13 told again; as many rows as begun are known to begin a right book.
def cut_again(book, top, begun):
    for place in range(begun, len(book)):
        if not can_begin(book[:place + 1], top):
            return place
    return None if is_talk(book, top) else len(book)


def spans_upto(bits, low):
    halves = [Half(first, size) for size in range(bits + 1) for first in range(0, 2**bits, 2**size)]
    return halves + [Open(0)] + [Open(first) for first in (1, 2, 4, 8, 16) if first <= low]


SOME = (
    ([], 0),
    ([0], 0),
    ([0, 1], 1),
    ([1, 4, 6], 3),
    ([6, 7], 3),
    ([0, 1], 3),
    ([2, 3, 4, 7], 3),
    ([], None),
    ([5], None),
    ([0, 1], None),
    ([1, 4, 6], None),
    ([2, 3], None),
    ([0, 5, 7, 9], None),
)


class OfBooks(unittest.TestCase):
    def assert_cut(self, book, top, wanted):
        before = rows(book)
        self.assertEqual(cut(book, top), wanted, before)
        self.assertIs(is_right(book, top), wanted is None, before)
        self.assertEqual(rows(book), before)

    def assert_as_told_again(self, book, top, begun):
        self.assert_cut(book, top, cut_again(book, top, begun))


class TheInterface(unittest.TestCase):
    def test_the_arguments(self):
        self.assertEqual(str(inspect.signature(is_right)), "(book, top)")
        self.assertEqual(str(inspect.signature(cut)), "(book, top)")

    def test_the_kinds_of_the_answers(self):
        book = talk([1, 4, 6], top_of(3))
        self.assertIs(is_right(book, top_of(3)), True)
        self.assertIs(is_right(book[:2], top_of(3)), False)
        self.assertIsNone(cut(book, top_of(3)))
        self.assertIs(type(cut(book[:2], top_of(3))), int)
        self.assertIs(type(cut([], top_of(3))), int)


class Talks(OfBooks):
    def test_of_every_set_of_a_small_line(self):
        for width in range(4):
            for hands in all_sets(width):
                for top in (top_of(width), top_of(width + 3), top_of()):
                    self.assert_cut(talk(hands, top), top, None)

    def test_on_great_lines(self):
        for hands in ([2**200 - 1, 2**200 - 2], [0, 1, 2**199], [2**190 * number for number in range(120)]):
            for top in (top_of(200), top_of()):
                self.assert_cut(talk(hands, top), top, None)
        self.assert_cut(talk([SIXTY_ONE_FIGURES, SIXTY_ONE_FIGURES - 1], top_of()), top_of(), None)

    def test_spans_need_only_be_alike(self):
        book = [(Half(0, 1), DIN), (Half(0, 0), word(0)), (Half(1, 0), word(1))]
        self.assert_cut(book, top_of(1), None)
        book = [(Open(0), DIN), (Half(0, 0), word(0)), (Open(1), word(9))]
        self.assert_cut(book, top_of(), None)

    def test_a_talk_from_another_top(self):
        self.assert_cut(talk([1, 4], top_of(3)), top_of(4), 0)
        self.assert_cut(talk([1, 4], top_of(3)), top_of(2), 0)
        self.assert_cut(talk([1, 4], top_of(3)), top_of(), 0)
        self.assert_cut(talk([1, 4], top_of()), top_of(3), 0)
        self.assert_cut(talk([], top_of()), top_of(0), 0)
        self.assert_cut(talk([], top_of(0)), top_of(), 0)

    def test_a_book_of_sixty_thousand_rows(self):
        hands = list(range(2**15 - 2768))
        book = talk(hands, top_of(15))
        self.assertGreater(len(book), 59_000)
        self.assert_cut(book, top_of(15), None)
        self.assert_cut(book[:-1], top_of(15), len(book) - 1)


class BeginningsAndMore(OfBooks):
    def test_the_book_of_no_rows(self):
        for width in (0, 1, 3, 200, None):
            self.assert_cut([], top_of(width), 0)

    def test_beginnings_of_talks(self):
        for width in (0, 1, 2, 3):
            for hands in all_sets(width):
                for top in (top_of(width), top_of()):
                    book = talk(hands, top)
                    for size in range(len(book)):
                        self.assert_cut(book[:size], top, size)

    def test_a_great_beginning(self):
        for top in (top_of(200), top_of()):
            book = talk([2**200 - 1, 2**200 - 2], top)
            for size in (1, 100, 200, 399, len(book) - 1):
                self.assert_cut(book[:size], top, size)

    def test_a_row_behind_the_end(self):
        for hands, width in SOME:
            top = top_of(width)
            book = talk(hands, top)
            for row in (book[0], book[-1], (Half(0, 0), HUSH), (Half(8, 3), HUSH), (Half(8, 3), DIN), (Open(8), HUSH)):
                self.assert_cut(book + [row], top, len(book))
                self.assert_cut(book + [row, row], top, len(book))

    def test_two_talks_in_one_book(self):
        book = talk([1, 4], top_of(3))
        self.assert_cut(book + talk([1, 4], top_of(3)), top_of(3), len(book))


class TalksThatWereChanged(OfBooks):
    def test_a_row_left_out(self):
        for hands, width in SOME:
            book = talk(hands, top_of(width))
            for place in range(len(book)):
                self.assert_cut(book[:place] + book[place + 1:], top_of(width), place)

    def test_a_row_told_twice(self):
        for hands, width in SOME:
            book = talk(hands, top_of(width))
            for place in range(len(book)):
                self.assert_cut(book[:place + 1] + book[place:], top_of(width), place + 1)

    def test_a_row_put_elsewhere(self):
        for hands, width in SOME:
            book = talk(hands, top_of(width))
            for place in range(len(book)):
                rest = book[:place] + book[place + 1:]
                for other in range(len(book)):
                    changed = rest[:other] + [book[place]] + rest[other:]
                    self.assert_cut(changed, top_of(width), None if other == place else min(place, other))

    def test_two_rows_exchanged(self):
        for hands, width in SOME:
            book = talk(hands, top_of(width))
            for place in range(len(book)):
                for other in range(place):
                    changed = list(book)
                    changed[place] = book[other]
                    changed[other] = book[place]
                    self.assert_cut(changed, top_of(width), other)

    def test_another_span(self):
        for hands, width in SOME:
            book = talk(hands, top_of(width))
            for place in range(len(book)):
                for span in spans_upto(4, 16):
                    if not span.alike(book[place][0]):
                        changed = book[:place] + [(span, book[place][1])] + book[place + 1:]
                        self.assert_cut(changed, top_of(width), place)

    def test_something_else_heard(self):
        for hands, width in SOME:
            book = talk(hands, top_of(width))
            for place in range(len(book)):
                for answer in [HUSH, DIN] + [word(number) for number in range(-1, 11)]:
                    changed = book[:place] + [(book[place][0], answer)] + book[place + 1:]
                    self.assert_as_told_again(changed, top_of(width), place)

    def test_a_word_beyond_its_span(self):
        for number in (-1, 8, 9, 2**200, SIXTY_ONE_FIGURES, -SIXTY_ONE_FIGURES):
            self.assert_cut([(Half(0, 3), word(number))], top_of(3), 0)
        self.assert_cut([(Half(0, 0), word(1))], top_of(0), 0)
        self.assert_cut([(Open(0), word(-1))], top_of(), 0)
        book = [(Half(0, 3), DIN), (Half(0, 2), word(1)), (Half(4, 2), word(4))]
        for number in (-1, 4, 7, 8):
            self.assert_cut([book[0], (Half(0, 2), word(number)), book[2]], top_of(3), 1)
        for number in (-1, 0, 1, 3, 8):
            self.assert_cut([book[0], book[1], (Half(4, 2), word(number))], top_of(3), 2)
        book = [(Open(0), DIN), (Half(0, 0), word(0)), (Open(1), word(1))]
        self.assert_cut([book[0], (Half(0, 0), word(1)), book[2]], top_of(), 1)
        self.assert_cut([book[0], book[1], (Open(1), word(0))], top_of(), 2)

    def test_another_word_of_the_same_span(self):
        book = [(Half(0, 3), DIN), (Half(0, 2), word(3)), (Half(4, 2), word(7))]
        self.assert_cut(book, top_of(3), None)


class TwoWordsBehindEachDin(OfBooks):
    def test_behind_a_din_of_one_bit_no_hush_of_its_lower_half(self):
        self.assert_cut([(Half(0, 1), DIN), (Half(0, 0), HUSH)], top_of(1), 1)
        self.assert_cut([(Half(0, 1), DIN), (Half(0, 0), HUSH), (Half(1, 0), word(1))], top_of(1), 1)
        deep = talk([6, 7], top_of(3))[:5]
        self.assertEqual(rows(deep)[-1], ("6+1", DIN))
        self.assert_cut(deep + [(Half(6, 0), HUSH)], top_of(3), 5)
        unended = talk([2, 3], top_of())[:6]
        self.assertEqual(rows(unended)[-1], ("2+1", DIN))
        self.assert_cut(unended + [(Half(2, 0), HUSH)], top_of(), 6)

    def test_behind_a_din_of_two_bits_a_hush_of_its_lower_half(self):
        book = [(Half(0, 2), DIN), (Half(0, 1), HUSH)]
        self.assert_cut(book, top_of(2), 2)
        self.assert_cut(book + [(Half(2, 1), HUSH)], top_of(2), 2)
        self.assert_cut(book + [(Half(2, 1), word(2))], top_of(2), 2)
        self.assert_cut(book + [(Half(2, 1), DIN)], top_of(2), 3)

    def test_behind_a_din_of_one_bit_no_hush_of_its_upper_half(self):
        self.assert_cut([(Half(0, 1), DIN), (Half(0, 0), word(0)), (Half(1, 0), HUSH)], top_of(1), 2)

    def test_behind_one_word_no_hush(self):
        book = [(Half(0, 3), DIN), (Half(0, 2), word(1))]
        self.assert_cut(book + [(Half(4, 2), HUSH)], top_of(3), 2)
        self.assert_cut(book + [(Half(4, 2), word(4))], top_of(3), None)
        self.assert_cut(book + [(Half(4, 2), DIN)], top_of(3), 3)

    def test_behind_a_din_of_the_lower_half_anything(self):
        book = talk([0, 1], top_of(2))[:-1]
        self.assert_cut(book + [(Half(2, 1), HUSH)], top_of(2), None)
        self.assert_cut(book + [(Half(2, 1), word(3))], top_of(2), None)
        self.assert_cut(book + [(Half(2, 1), DIN)], top_of(2), len(book) + 1)

    def test_no_din_of_no_bits(self):
        self.assert_cut([(Half(0, 0), DIN)], top_of(0), 0)
        self.assert_cut([(Half(0, 1), DIN), (Half(0, 0), DIN)], top_of(1), 1)
        self.assert_cut([(Half(0, 1), DIN), (Half(0, 0), word(0)), (Half(1, 0), DIN)], top_of(1), 2)
        self.assert_cut([(Open(0), DIN), (Half(0, 0), DIN)], top_of(), 1)
        self.assert_cut([(Open(0), DIN), (Half(0, 0), HUSH), (Open(1), DIN), (Half(1, 0), DIN)], top_of(), 3)

    def test_on_the_open_line_hushes_may_go_on(self):
        book = [(Open(0), DIN), (Half(0, 0), HUSH)]
        low = 1
        for bits in range(205):
            self.assert_cut(book + [(Open(low), HUSH)], top_of(), len(book))
            self.assert_cut(book + [(Open(low), word(low))], top_of(), len(book))
            book = book + [(Open(low), DIN), (Half(low, bits), HUSH)]
            self.assert_cut(book, top_of(), len(book))
            low = 2 * low

    def test_on_the_open_line_behind_one_word_no_hush(self):
        book = [(Open(0), DIN), (Half(0, 0), word(0))]
        self.assert_cut(book + [(Open(1), HUSH)], top_of(), 2)
        self.assert_cut(book + [(Open(1), DIN)], top_of(), 3)


class EveryRowBehindEveryBeginning(OfBooks):
    def assert_every_row(self, book, top, spans, answers):
        for span in spans:
            for answer in answers:
                self.assert_as_told_again(book + [(span, answer)], top, len(book))

    def test_on_small_lines(self):
        for width in (0, 1, 2):
            top = top_of(width)
            answers = [HUSH, DIN] + [word(number) for number in range(-1, 2**width + 1)]
            begun = {}
            for hands in all_sets(width):
                book = talk(hands, top)
                for size in range(len(book) + 1):
                    begun[tuple(rows(book[:size]))] = book[:size]
            for book in begun.values():
                self.assert_every_row(book, top, spans_upto(width + 1, 2), answers)

    def test_on_the_open_line(self):
        answers = [HUSH, DIN] + [word(number) for number in range(-1, 10)]
        begun = {}
        for hands in all_sets(3):
            book = talk(hands, top_of())
            for size in range(len(book) + 1):
                begun[tuple(rows(book[:size]))] = book[:size]
        for book in list(begun.values())[::5]:
            self.assert_every_row(book, top_of(), [Half(2, 1), Half(3, 0), Half(4, 2), Open(4)], answers)


class NothingIsKept(OfBooks):
    def test_a_book_may_be_changed_between(self):
        book = talk([1, 4, 6], top_of(3))
        last = book.pop()
        self.assert_cut(book, top_of(3), len(book))
        book.append(last)
        self.assert_cut(book, top_of(3), None)
        book.append(last)
        self.assert_cut(book, top_of(3), len(book) - 1)


if __name__ == "__main__":
    unittest.main()
