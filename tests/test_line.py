"""Points 9 and 10: hands on a line, and what is heard; points 2 and 3 where they touch these."""

import inspect
import itertools
import unittest

from shoutline.errors import NoHands
from shoutline.line import heard, on_line
from shoutline.spans import Half, Open, top_of
from tests.helper import SIXTY_ONE_FIGURES, assert_refused


class TheInterface(unittest.TestCase):
    def test_the_arguments(self):
        self.assertEqual(str(inspect.signature(on_line)), "(hands, top)")
        self.assertEqual(str(inspect.signature(heard)), "(hands, span)")


class OnTheLine(unittest.TestCase):
    def assert_on_line(self, hands, top):
        before = list(hands)
        self.assertIsNone(on_line(hands, top))
        self.assertEqual(hands, before)

    def assert_not_on_line(self, hands, top):
        before = list(hands)
        assert_refused(self, NoHands, on_line, hands, top)
        self.assertEqual(hands, before)

    def test_nobody(self):
        for width in (0, 3, 200, None):
            self.assert_on_line([], top_of(width))

    def test_hands_in_any_order(self):
        for hands in itertools.permutations([0, 3, 5, 7]):
            self.assert_on_line(list(hands), top_of(3))
            self.assert_on_line(list(hands), top_of())

    def test_all_numbers_of_a_small_line(self):
        self.assert_on_line([0], top_of(0))
        self.assert_on_line([1, 0], top_of(1))
        self.assert_on_line(list(range(8)), top_of(3))
        self.assert_on_line(list(range(7, -1, -1)), top_of(3))

    def test_great_numbers(self):
        self.assert_on_line([2**200 - 1, 0, 2**199], top_of(200))
        self.assert_on_line([SIXTY_ONE_FIGURES, 0, 2**200], top_of())

    def test_a_hundred_and_twenty_hands(self):
        self.assert_on_line(list(range(120)), top_of(7))
        self.assert_on_line([2**200 - 1 - number for number in range(120)], top_of(200))
        self.assert_on_line([SIXTY_ONE_FIGURES - number for number in range(120)], top_of())

    def test_somewhat_more_hands_are_not_refused(self):
        self.assert_on_line(list(range(130)), top_of(8))

    def test_two_alike(self):
        self.assert_not_on_line([0, 0], top_of(0))
        self.assert_not_on_line([3, 3], top_of(3))
        self.assert_not_on_line([5, 1, 2, 5], top_of(3))
        self.assert_not_on_line([2**200 - 1, 7, 2**200 - 1], top_of(200))

    def test_one_below_0(self):
        self.assert_not_on_line([-1], top_of(0))
        self.assert_not_on_line([-1], top_of(3))
        self.assert_not_on_line([3, -8, 1], top_of(3))
        self.assert_not_on_line([1, 2, -SIXTY_ONE_FIGURES], top_of(200))

    def test_one_from_the_end_of_the_line_on(self):
        self.assert_not_on_line([1], top_of(0))
        self.assert_not_on_line([8], top_of(3))
        self.assert_not_on_line([0, 9, 1], top_of(3))
        self.assert_not_on_line([1, 2, SIXTY_ONE_FIGURES], top_of(3))
        self.assert_not_on_line([2**200], top_of(200))

    def test_on_the_open_line(self):
        self.assert_not_on_line([0, 0], top_of())
        self.assert_not_on_line([SIXTY_ONE_FIGURES, 1, SIXTY_ONE_FIGURES], top_of())
        self.assert_not_on_line([-1], top_of())
        self.assert_not_on_line([4, -1, 5], top_of())
        self.assert_not_on_line([1, -SIXTY_ONE_FIGURES], top_of())

    def test_a_truth_is_no_whole_number(self):
        self.assert_not_on_line([True], top_of(3))
        self.assert_not_on_line([2, False], top_of())

    def test_the_hands_are_not_kept(self):
        hands = [1, 2]
        on_line(hands, top_of(2))
        hands.append(4)
        self.assert_on_line([1, 2], top_of(2))
        self.assert_not_on_line(hands, top_of(2))


class WhatIsHeard(unittest.TestCase):
    def assert_heard(self, hands, span, wanted):
        for order in itertools.permutations(hands):
            handed = list(order)
            answer = heard(handed, span)
            self.assertIs(type(answer), tuple)
            self.assertEqual(answer, wanted)
            self.assertEqual(handed, list(order))

    def test_a_hush_in_a_half(self):
        self.assert_heard([], Half(0, 0), ("hush",))
        self.assert_heard([], Half(0, 200), ("hush",))
        self.assert_heard([3, 8], Half(4, 2), ("hush",))
        self.assert_heard([0, 7, 16, 100], Half(8, 3), ("hush",))

    def test_a_word_in_a_half(self):
        self.assert_heard([0], Half(0, 0), ("word", 0))
        self.assert_heard([3, 4, 8], Half(4, 2), ("word", 4))
        self.assert_heard([3, 7, 8], Half(4, 2), ("word", 7))
        self.assert_heard([5, 6], Half(6, 0), ("word", 6))
        self.assert_heard([0, 2**200 - 1, 2**200], Half(2**199, 199), ("word", 2**200 - 1))

    def test_a_din_in_a_half(self):
        self.assert_heard([4, 7], Half(4, 2), ("din",))
        self.assert_heard([4, 5, 6, 7], Half(4, 2), ("din",))
        self.assert_heard([3, 4, 5, 8], Half(4, 2), ("din",))
        self.assert_heard([0, 2**200 - 1], Half(0, 200), ("din",))

    def test_a_hush_in_an_open_span(self):
        self.assert_heard([], Open(0), ("hush",))
        self.assert_heard([0], Open(1), ("hush",))
        self.assert_heard([0, 1, 3], Open(4), ("hush",))
        self.assert_heard([2**200 - 1], Open(2**200), ("hush",))

    def test_a_word_in_an_open_span(self):
        self.assert_heard([0], Open(0), ("word", 0))
        self.assert_heard([0, 1], Open(1), ("word", 1))
        self.assert_heard([0, 3, 4], Open(4), ("word", 4))
        self.assert_heard([1, SIXTY_ONE_FIGURES], Open(2**200), ("word", SIXTY_ONE_FIGURES))

    def test_a_din_in_an_open_span(self):
        self.assert_heard([0, 1], Open(0), ("din",))
        self.assert_heard([0, 4, 5], Open(4), ("din",))
        self.assert_heard([2**200, SIXTY_ONE_FIGURES], Open(2**200), ("din",))

    def test_a_hundred_and_twenty_hands(self):
        hands = [3 * number for number in range(120)]
        self.assertEqual(heard(hands, top_of(9)), ("din",))
        self.assertEqual(heard(hands, Half(357, 0)), ("word", 357))
        self.assertEqual(heard(hands, Half(358, 1)), ("hush",))
        self.assertEqual(heard(hands, Open(512)), ("hush",))
        self.assertEqual(hands, [3 * number for number in range(120)])

    def test_the_hands_are_not_kept(self):
        hands = [5]
        answer = heard(hands, Half(4, 2))
        hands.append(6)
        self.assertEqual(answer, ("word", 5))
        self.assertEqual(heard([5], Half(4, 2)), ("word", 5))

    def test_all_sets_of_a_small_line(self):
        spans = [Half(low, bits) for bits in range(4) for low in range(0, 8, 2**bits)]
        for count in range(9):
            for hands in itertools.combinations(range(8), count):
                for span in spans:
                    first, last = span.low, span.low + 2**span.bits - 1
                    inside = [hand for hand in hands if first <= hand <= last]
                    wanted = ("din",)
                    if not inside:
                        wanted = ("hush",)
                    elif len(inside) == 1:
                        wanted = ("word", inside[0])
                    self.assertEqual(heard(list(hands), span), wanted)


if __name__ == "__main__":
    unittest.main()
