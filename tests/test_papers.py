"""Points 21 to 24: papers, shown hands, least papers and gaps; points 2, 3 and 9 where they touch these."""

import inspect
import itertools
import unittest

from shoutline.line import heard
from shoutline.papers import fits, gap, is_of, least_paper, shown_hands
from shoutline.spans import Half, top_of
from shoutline.talks import talk
from shoutline.turns import dins
from tests.helper import (
    DIN,
    GREAT_HANDS,
    HUSH,
    NOT_ON_LINE,
    SIXTY_ONE_FIGURES,
    all_sets,
    assert_no_hands,
    rows,
    word,
)


def numbers_of(span):
    return range(span.low, span.low + 2**span.bits)


# Point 21 told again, number by number.
def fits_again(paper, width):
    for place, (span, answer) in enumerate(paper):
        if numbers_of(span)[-1] >= 2**width:
            return False
        if answer != HUSH and answer[1] not in numbers_of(span):
            return False
        for other, (its_span, its_answer) in enumerate(paper):
            if other != place and answer != HUSH and answer != its_answer and answer[1] in numbers_of(its_span):
                return False
    return True


# Point 24 told again, number by number.
def gap_again(paper, width):
    for number in range(2**width):
        if not any(number in numbers_of(span) for span, answer in paper):
            return number
    return None


def shown_again(paper, width):
    if not fits_again(paper, width) or gap_again(paper, width) is not None:
        return None
    return sorted({answer[1] for span, answer in paper if answer != HUSH})


def halves_upto(bits):
    return [Half(low, size) for size in range(bits + 1) for low in range(0, 2**bits, 2**size)]


# Every half of a small line, with what is heard in it, but for the dins.
def whole_paper(hands, width):
    paper = [(span, heard(hands, span)) for span in halves_upto(width)]
    return [row for row in paper if row[1] != DIN]


# All papers of so many rows, with some spans and words beyond the line.
def papers_of(width, count):
    answers = [HUSH] + [word(number) for number in range(-1, 2**width + 1)]
    every = [(span, answer) for span in halves_upto(width + 1) for answer in answers]
    return itertools.product(every, repeat=count)


class OfPapers(unittest.TestCase):
    # The paper stays as it was, whatever is asked.
    def assert_told(self, asked, paper, more, wanted):
        before = rows(paper)
        self.assertEqual(asked(paper, more), wanted, (before, more))
        self.assertEqual(rows(paper), before)

    def assert_fits(self, paper, width, wanted):
        self.assertIs(fits(paper, width), wanted, (rows(paper), width))
        self.assert_told(fits, paper, width, wanted)
        if not wanted:
            self.assert_told(shown_hands, paper, width, None)


class TheInterface(unittest.TestCase):
    def test_the_arguments(self):
        self.assertEqual(str(inspect.signature(is_of)), "(paper, hands)")
        self.assertEqual(str(inspect.signature(fits)), "(paper, width)")
        self.assertEqual(str(inspect.signature(shown_hands)), "(paper, width)")
        self.assertEqual(str(inspect.signature(least_paper)), "(hands, width)")
        self.assertEqual(str(inspect.signature(gap)), "(paper, width)")

    def test_the_kinds_of_the_answers(self):
        paper = least_paper([6, 1, 4], 3)
        self.assertIs(type(paper), list)
        for row in paper:
            self.assertIs(type(row), tuple)
            self.assertEqual(len(row), 2)
            self.assertIs(type(row[0]), Half)
            self.assertIs(type(row[1]), tuple)
        self.assertIs(is_of(paper, [6, 1, 4]), True)
        self.assertIs(is_of(paper, [6, 1]), False)
        self.assertIs(fits(paper, 3), True)
        self.assertIs(fits(paper, 2), False)
        self.assertIs(type(shown_hands(paper, 3)), list)
        self.assertEqual([type(hand) for hand in shown_hands(paper, 3)], [int, int, int])
        self.assertIsNone(shown_hands(paper, 4))
        self.assertIsNone(gap(paper, 3))
        self.assertIs(type(gap(paper, 4)), int)
        self.assertIs(type(gap([], 0)), int)


class OfHands(OfPapers):
    # Hands in any order, and the list of them stays as it was.
    def assert_is_of(self, paper, hands, wanted):
        for handed in (list(hands), hands[::-1], sorted(hands)):
            before = list(handed)
            self.assertIs(is_of(paper, handed), wanted, (rows(paper), hands))
            self.assertEqual(handed, before)
        self.assert_told(is_of, paper, hands, wanted)

    def test_row_by_row(self):
        paper = [(Half(4, 1), word(4)), (Half(0, 0), HUSH), (Half(0, 2), word(1)), (Half(7, 0), HUSH)]
        self.assert_is_of(paper, [6, 1, 4], True)
        self.assert_is_of(paper, [1, 4], True)
        self.assert_is_of(paper, [9, 1, 4, 8], True)
        for hands in ([], [1], [4], [1, 4, 7], [0, 1, 4], [0, 4], [1, 5], [1, 4, 5], [2, 4], [1, 2, 4], [6]):
            self.assert_is_of(paper, hands, False)

    def test_the_paper_of_no_rows(self):
        for hands in ([], [0], [5, 3, 9], [SIXTY_ONE_FIGURES]):
            self.assert_is_of([], hands, True)

    def test_of_nobody(self):
        self.assert_is_of([(Half(0, 200), HUSH), (Half(4, 2), HUSH)], [], True)
        self.assert_is_of([(Half(0, 200), HUSH), (Half(4, 2), word(4))], [], False)

    def test_papers_of_every_set_and_papers_with_one_row_changed(self):
        for width in range(3):
            answers = [HUSH] + [word(number) for number in range(-1, 2**width + 1)]
            for hands in all_sets(width):
                paper = whole_paper(hands, width)
                self.assert_is_of(paper, hands, True)
                self.assert_is_of(paper[::-1], hands, True)
                for place, (span, was) in enumerate(paper):
                    for answer in answers:
                        changed = paper[:place] + [(span, answer)] + paper[place + 1:]
                        self.assert_is_of(changed, hands, answer == was)

    def test_papers_with_another_span(self):
        for hands in all_sets(2):
            paper = whole_paper(hands, 2)
            for place, (was, answer) in enumerate(paper):
                for span in halves_upto(3):
                    changed = paper[:place] + [(span, answer)] + paper[place + 1:]
                    self.assert_is_of(changed, hands, heard(hands, span) == answer)

    def test_every_set_against_every_row(self):
        for hands in all_sets(3):
            for span in halves_upto(4):
                for answer in [HUSH] + [word(number) for number in range(-1, 9)]:
                    self.assertIs(is_of([(span, answer)], hands[::-1]), heard(hands, span) == answer)

    def test_great_numbers(self):
        for hands in GREAT_HANDS:
            paper = [(Half(hand, 0), word(hand)) for hand in hands]
            self.assert_is_of(paper, hands, True)
            self.assert_is_of(least_paper(hands, 200), hands, True)
            self.assert_is_of(paper + [(Half(SIXTY_ONE_FIGURES, 0), HUSH)], hands, True)
            if hands:
                self.assert_is_of(paper, hands[1:], False)
                self.assert_is_of(paper + [(Half(hands[-1], 0), HUSH)], hands, False)

    def test_a_paper_of_sixty_thousand_rows(self):
        hands = [500 * number + 3 for number in range(120)]
        paper = [(Half(number, 0), heard(hands[number // 500:][:1], Half(number, 0))) for number in range(60_000)]
        self.assertIs(is_of(paper, hands), True)
        self.assertIs(is_of(paper, hands[:-1]), False)
        self.assertIs(is_of(paper, hands + [59_999]), False)


class ThatFit(OfPapers):
    def test_the_paper_of_no_rows(self):
        for width in (0, 1, 3, 200):
            self.assert_fits([], width, True)

    def test_a_span_beyond_the_top(self):
        for width in (0, 1, 3, 200):
            self.assert_fits([(Half(0, width), HUSH)], width, True)
            self.assert_fits([(Half(2**width - 1, 0), HUSH)], width, True)
            self.assert_fits([(Half(0, width + 1), HUSH)], width, False)
            self.assert_fits([(Half(0, width + 5), word(0))], width, False)
            self.assert_fits([(Half(2**width, 0), HUSH)], width, False)
            self.assert_fits([(Half(2**width, width), HUSH)], width, False)
            self.assert_fits([(Half(2**width, 0), word(2**width))], width, False)
            self.assert_fits([(Half(0, width), HUSH), (Half(2**width, 0), HUSH)], width, False)
            self.assert_fits([(Half(2**width, 0), HUSH), (Half(0, width), HUSH)], width, False)

    def test_a_word_beyond_its_span(self):
        for number in (-1, 0, 3, 6, 7, 8, SIXTY_ONE_FIGURES, -SIXTY_ONE_FIGURES):
            self.assert_fits([(Half(4, 1), word(number))], 3, False)
            self.assert_fits([(Half(0, 0), HUSH), (Half(4, 1), word(number)), (Half(1, 0), HUSH)], 3, False)
        for number in (4, 5):
            self.assert_fits([(Half(4, 1), word(number))], 3, True)
        self.assert_fits([(Half(0, 0), word(1))], 0, False)

    def test_a_word_that_lies_in_a_hush(self):
        for rest in ([], [(Half(0, 2), HUSH)], [(Half(7, 0), word(7)), (Half(0, 0), HUSH)]):
            for hush in (Half(4, 0), Half(4, 1), Half(4, 2), Half(0, 3)):
                self.assert_fits([(Half(4, 1), word(4))] + rest + [(hush, HUSH)], 3, False)
                self.assert_fits([(hush, HUSH)] + rest + [(Half(4, 1), word(4))], 3, False)
        # Within the span of the word, but beside the word itself.
        self.assert_fits([(Half(4, 1), word(4)), (Half(5, 0), HUSH)], 3, True)
        self.assert_fits([(Half(0, 3), word(4)), (Half(0, 2), HUSH), (Half(6, 1), HUSH), (Half(5, 0), HUSH)], 3, True)

    def test_a_word_that_lies_in_the_span_of_another_word(self):
        self.assert_fits([(Half(4, 1), word(4)), (Half(4, 1), word(5))], 3, False)
        self.assert_fits([(Half(4, 1), word(4)), (Half(5, 0), word(5))], 3, False)
        self.assert_fits([(Half(5, 0), word(5)), (Half(0, 3), word(1))], 3, False)
        self.assert_fits([(Half(0, 3), word(1)), (Half(0, 2), word(1)), (Half(7, 0), word(7))], 3, False)
        self.assert_fits([(Half(0, 2), word(1)), (Half(4, 0), word(4)), (Half(6, 1), word(7))], 3, True)

    def test_the_same_word_in_two_rows(self):
        self.assert_fits([(Half(4, 1), word(4)), (Half(4, 1), word(4))], 3, True)
        self.assert_fits([(Half(4, 1), word(4)), (Half(4, 0), word(4)), (Half(0, 3), word(4))], 3, True)
        self.assert_fits([(Half(0, 3), word(4)), (Half(0, 2), HUSH), (Half(4, 1), word(4))], 3, True)

    def test_hushes_within_one_another(self):
        paper = [(Half(0, 2), HUSH), (Half(0, 3), HUSH), (Half(1, 0), HUSH), (Half(0, 3), HUSH)]
        self.assert_fits(paper, 3, True)
        self.assert_fits(paper, 200, True)
        self.assert_fits(paper, 2, False)

    def test_every_small_paper(self):
        for width, counts in ((0, (1, 2, 3)), (1, (1, 2))):
            for count in counts:
                for paper in papers_of(width, count):
                    self.assert_fits(list(paper), width, fits_again(paper, width))
        for paper in itertools.islice(papers_of(2, 2), 0, None, 3):
            self.assert_fits(list(paper), 2, fits_again(paper, 2))
        for paper in itertools.islice(papers_of(1, 3), 0, None, 7):
            self.assert_fits(list(paper), 1, fits_again(paper, 1))

    def test_papers_of_hands(self):
        for hands in all_sets(3):
            self.assert_fits(whole_paper(hands, 3), 3, True)
            self.assert_fits(whole_paper(hands, 3)[::-2], 3, True)

    def test_a_paper_of_sixty_thousand_rows(self):
        paper = [(Half(2 * number, 1), word(2 * number + 1)) for number in range(60_000)]
        self.assertIs(fits(paper, 17), True)
        self.assertIs(fits(paper, 16), False)
        self.assertIs(fits(paper + [(Half(59_998, 0), HUSH)], 17), True)
        self.assertIs(fits(paper + [(Half(59_999, 0), HUSH)], 17), False)
        self.assertIs(fits(paper + [(Half(59_996, 2), word(59_999))], 17), False)
        self.assertEqual(gap(paper, 17), 120_000)
        paper = paper + [(Half(120_000 + 2 * number, 1), HUSH) for number in range(2**16 - 60_000)]
        self.assertIsNone(gap(paper[::-1], 17))
        self.assertEqual(shown_hands(paper[::-1], 17), list(range(1, 120_000, 2)))


class ThatShow(OfPapers):
    def assert_shown(self, paper, width, wanted):
        for handed in (paper, paper[::-1], sorted(paper, key=lambda row: -row[0].bits)):
            self.assert_told(shown_hands, handed, width, wanted)

    def test_sorted_and_each_once(self):
        paper = [
            (Half(6, 1), word(7)),
            (Half(0, 2), word(1)),
            (Half(7, 0), word(7)),
            (Half(4, 1), word(4)),
            (Half(0, 1), word(1)),
            (Half(0, 2), word(1)),
        ]
        self.assert_shown(paper, 3, [1, 4, 7])

    def test_nobody(self):
        for width in (0, 1, 3, 200):
            self.assert_shown([(top_of(width), HUSH)], width, [])
        self.assert_shown([(Half(4, 2), HUSH), (Half(0, 1), HUSH), (Half(2, 1), HUSH)], 3, [])

    def test_the_width_0(self):
        self.assert_shown([], 0, None)
        self.assert_shown([(Half(0, 0), HUSH)], 0, [])
        self.assert_shown([(Half(0, 0), word(0))], 0, [0])
        self.assert_shown([(Half(0, 0), word(0)), (Half(0, 0), word(0))], 0, [0])
        self.assert_shown([(Half(0, 0), word(0)), (Half(0, 0), HUSH)], 0, None)
        self.assert_shown([(Half(0, 0), word(1))], 0, None)
        self.assert_shown([(Half(0, 1), HUSH)], 0, None)
        self.assert_shown([(Half(0, 0), HUSH), (Half(1, 0), HUSH)], 0, None)

    def test_a_number_is_missing(self):
        paper = [(Half(number, 0), HUSH) for number in range(8)]
        self.assert_shown(paper, 3, [])
        for place in range(8):
            self.assert_shown(paper[:place] + paper[place + 1:], 3, None)
        for width in (0, 1, 3, 200):
            self.assert_shown([], width, None)
        self.assert_shown([(Half(0, 3), word(5))], 4, None)
        self.assert_shown([(Half(8, 3), word(9))], 4, None)

    def test_a_paper_that_does_not_fit(self):
        self.assert_shown([(Half(0, 3), word(5)), (Half(5, 0), HUSH)], 3, None)
        self.assert_shown([(Half(0, 3), word(5)), (Half(4, 0), word(4))], 3, None)
        self.assert_shown([(Half(0, 3), word(8))], 3, None)
        self.assert_shown([(Half(0, 4), word(5))], 3, None)
        self.assert_shown([(Half(0, 3), word(5)), (Half(8, 0), HUSH)], 3, None)

    def test_on_a_line_of_two_hundred_bits(self):
        # The number 0 by itself, and behind it each half as great as all before it.
        rest = [(Half(2**bits, bits), HUSH) for bits in range(200)]
        self.assert_shown([(Half(0, 0), word(0))] + rest, 200, [0])
        self.assert_shown([(Half(0, 0), HUSH)] + rest, 200, [])
        self.assert_shown(rest, 200, None)
        self.assert_shown([(Half(0, 0), word(0))] + rest[:-1], 200, None)
        last = 2**200 - 1
        self.assert_shown([(Half(0, 0), word(0))] + rest[:-1] + [(Half(2**199, 199), word(last))], 200, [0, last])
        self.assert_shown([(Half(0, 0), word(0)), (Half(last, 0), word(last))] + rest, 200, None)
        for hands in GREAT_HANDS:
            self.assert_shown(least_paper(hands, 200), 200, sorted(hands))

    def test_every_small_paper(self):
        for width, count in ((0, 2), (1, 1), (1, 2), (2, 1)):
            for paper in papers_of(width, count):
                self.assert_shown(list(paper), width, shown_again(paper, width))
        for paper in itertools.islice(papers_of(1, 3), 0, None, 5):
            self.assert_shown(list(paper), 1, shown_again(paper, 1))

    def test_just_these_hands_are_all_of_whom_it_can_be(self):
        for width in (0, 1, 2):
            for paper in papers_of(width, 2):
                paper = list(paper)
                told = shown_hands(paper, width)
                fitting = [hands for hands in all_sets(width) if is_of(paper, hands)]
                if told is not None:
                    self.assertEqual(fitting, [told])
                elif fits(paper, width):
                    self.assertGreater(len(fitting), 1)

    def test_the_whole_paper_of_every_set(self):
        for width in range(4):
            for hands in all_sets(width):
                self.assert_shown(whole_paper(hands, width), width, hands)

    def test_each_list_is_a_new_one(self):
        paper = [(Half(0, 2), word(1)), (Half(4, 2), word(6))]
        first = shown_hands(paper, 3)
        second = shown_hands(paper, 3)
        self.assertIsNot(first, second)
        first.append(7)
        self.assertEqual(second, [1, 6])
        self.assertEqual(shown_hands(paper, 3), [1, 6])
        paper.clear()
        self.assertEqual(second, [1, 6])


class TheLeast(OfPapers):
    def assert_least(self, hands, width, wanted):
        for order in itertools.permutations(hands):
            handed = list(order)
            self.assertEqual(rows(least_paper(handed, width)), wanted)
            self.assertEqual(handed, list(order))

    # What point 23 says of every least paper.
    def assert_shows(self, hands, width):
        paper = least_paper(hands, width)
        self.assertEqual(len(paper), dins(hands, width) + 1)
        lows = [span.low for span, answer in paper]
        self.assertEqual(lows, sorted(set(lows)))
        told = sorted([row for row in talk(hands, top_of(width)) if row[1] != DIN], key=lambda row: row[0].low)
        self.assertEqual(rows(paper), rows(told))
        self.assertIs(is_of(paper, hands), True)
        self.assertIs(fits(paper, width), True)
        self.assertEqual(shown_hands(paper, width), sorted(hands))
        self.assertIsNone(gap(paper, width))

    def test_nobody(self):
        for width in (0, 1, 3, 200):
            self.assert_least([], width, [(top_of(width).shown(), HUSH)])

    def test_one_hand(self):
        for hand, width in ((0, 0), (1, 1), (5, 3), (2**200 - 1, 200)):
            self.assert_least([hand], width, [(top_of(width).shown(), word(hand))])

    def test_several_hands(self):
        self.assert_least([1, 4, 6], 3, [("0+2", word(1)), ("4+1", word(4)), ("6+1", word(6))])
        wanted = [("0+2", HUSH), ("4+1", HUSH), ("6+0", word(6)), ("7+0", word(7))]
        self.assert_least([6, 7], 3, wanted)
        wanted = [("0+0", word(0)), ("1+0", word(1)), ("2+1", HUSH), ("4+2", HUSH)]
        self.assert_least([0, 1], 3, wanted)
        wanted = [("0+1", word(1)), ("2+1", word(2)), ("4+2", HUSH), ("8+2", word(9)), ("12+2", word(14))]
        self.assert_least([1, 2, 9, 14], 4, wanted)

    def test_all_numbers_of_a_small_line(self):
        self.assert_least([0, 1, 2, 3], 2, [(f"{number}+0", word(number)) for number in range(4)])

    def test_every_small_set(self):
        for width in range(5):
            for hands in all_sets(width)[::41 if width == 4 else 1]:
                self.assert_shows(hands[::-1], width)

    def test_great_lines(self):
        for hands in GREAT_HANDS:
            self.assert_shows(hands, 200)

    def test_no_paper_that_shows_is_shorter(self):
        for width in (1, 2):
            for hands in all_sets(width):
                every = whole_paper(hands, width)
                for count in range(dins(hands, width) + 1):
                    for paper in itertools.combinations(every, count):
                        self.assertIsNone(shown_hands(list(paper), width))

    def test_no_rows_of_dins(self):
        for hands in ([0, 1], [6, 7], [0, 3, 5, 7]):
            self.assertNotIn(DIN, [answer for span, answer in least_paper(hands, 3)])

    def test_not_on_the_line(self):
        for hands, width in NOT_ON_LINE:
            with self.subTest(hands=hands, width=width):
                assert_no_hands(self, least_paper, list(hands), width)

    def test_each_list_is_a_new_one(self):
        for hands in ([], [5], [1, 6, 7]):
            first = least_paper(hands, 3)
            before = rows(first)
            second = least_paper(hands, 3)
            self.assertIsNot(first, second)
            first.clear()
            hands.append(0)
            self.assertEqual(rows(second), before)
            hands.pop()
            self.assertEqual(rows(least_paper(hands, 3)), before)


class TheGap(OfPapers):
    def assert_gap(self, paper, width, wanted):
        for handed in (paper, paper[::-1], sorted(paper, key=lambda row: (row[0].bits, -row[0].low))):
            self.assert_told(gap, handed, width, wanted)

    def test_the_paper_of_no_rows(self):
        for width in (0, 1, 3, 200):
            self.assert_gap([], width, 0)

    def test_one_number_missing(self):
        paper = [(Half(number, 0), HUSH) for number in range(8)]
        for place in range(8):
            self.assert_gap(paper[:place] + paper[place + 1:], 3, place)
        self.assert_gap(paper, 3, None)
        self.assert_gap(paper, 4, 8)
        self.assert_gap(paper, 2, None)

    def test_several_missing(self):
        self.assert_gap([(Half(4, 1), HUSH), (Half(0, 1), word(1))], 3, 2)
        self.assert_gap([(Half(4, 2), HUSH), (Half(0, 1), word(1)), (Half(3, 0), HUSH)], 3, 2)
        self.assert_gap([(Half(2, 1), HUSH)], 3, 0)

    def test_spans_within_one_another(self):
        paper = [(Half(0, 2), HUSH), (Half(1, 0), HUSH), (Half(0, 0), HUSH), (Half(0, 1), HUSH), (Half(2, 1), HUSH)]
        self.assert_gap(paper, 3, 4)
        self.assert_gap(paper, 2, None)
        paper = paper + [(Half(5, 0), HUSH), (Half(4, 1), HUSH), (Half(6, 0), HUSH)]
        self.assert_gap(paper, 3, 7)
        self.assert_gap(paper + [(Half(0, 3), HUSH)], 3, None)

    def test_spans_beyond_the_top(self):
        self.assert_gap([(Half(0, 4), HUSH)], 3, None)
        self.assert_gap([(Half(0, 200), HUSH)], 0, None)
        self.assert_gap([(Half(8, 3), HUSH), (Half(0, 2), HUSH), (Half(5, 0), HUSH)], 3, 4)
        self.assert_gap([(Half(8, 3), HUSH)], 3, 0)
        self.assert_gap([(Half(8, 3), HUSH), (Half(0, 3), HUSH)], 3, None)
        self.assert_gap([(Half(16, 0), HUSH), (Half(0, 3), HUSH)], 3, None)
        self.assert_gap([(Half(16, 0), HUSH), (Half(0, 3), HUSH)], 4, 8)

    def test_what_is_heard_is_all_the_same(self):
        paper = [(Half(0, 2), word(99)), (Half(4, 1), word(1)), (Half(4, 0), HUSH), (Half(5, 0), word(5))]
        self.assert_gap(paper, 3, 6)

    def test_great_widths(self):
        paper = [(Half(2**bits, bits), HUSH) for bits in range(200)]
        self.assert_gap(paper, 200, 0)
        whole = paper + [(Half(0, 0), HUSH)]
        self.assert_gap(whole, 200, None)
        for bits in (0, 1, 60, 198, 199):
            self.assert_gap(whole[:bits] + whole[bits + 1:], 200, 2**bits)
        last = [(Half(2**200 - 2**(bits + 1), bits), HUSH) for bits in range(200)]
        self.assert_gap(last, 200, 2**200 - 1)
        self.assert_gap(last + [(Half(2**200 - 1, 0), HUSH)], 200, None)
        self.assert_gap([(Half(0, 200), HUSH)], 200, None)

    def test_every_small_paper(self):
        spans = halves_upto(3)
        for count in range(4):
            for chosen in itertools.product(spans, repeat=count):
                paper = [(span, HUSH) for span in chosen]
                for width in (0, 1, 2):
                    self.assertEqual(gap(paper, width), gap_again(paper, width))

    def test_every_set_of_spans_of_the_line_of_three_bits(self):
        spans = halves_upto(3)
        for chosen in range(0, 2**15, 11):
            paper = [(span, HUSH) for place, span in enumerate(spans) if chosen >> place & 1]
            self.assert_gap(paper, 3, gap_again(paper, 3))

    def test_papers_of_every_set(self):
        for hands in all_sets(3):
            paper = whole_paper(hands, 3)
            self.assert_gap(paper, 3, None)
            self.assert_gap(paper[1::2], 3, gap_again(paper[1::2], 3))


if __name__ == "__main__":
    unittest.main()
