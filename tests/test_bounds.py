"""Points 17 and 18: the most and the fewest turns, slow and quick hands; points 2 and 3 where they touch these."""

import inspect
import unittest

from shoutline.bounds import fewest_turns, most_turns, quick_hands, slow_hands
from shoutline.errors import NoHands
from shoutline.spans import top_of
from shoutline.talks import talk, words
from shoutline.turns import turns
from tests.helper import SIXTY_ONE_FIGURES, all_sets, assert_refused

# Counts above what the line of the width has.
TOO_MANY = (
    (0, 2),
    (0, 3),
    (0, SIXTY_ONE_FIGURES),
    (1, 3),
    (3, 9),
    (3, 100),
    (6, 65),
    (6, 120),
    (60, 2**60 + 1),
    (200, 2**200 + 1),
    (200, SIXTY_ONE_FIGURES),
)


class TheInterface(unittest.TestCase):
    def test_the_arguments(self):
        for asked in (most_turns, fewest_turns, slow_hands, quick_hands):
            self.assertEqual(str(inspect.signature(asked)), "(width, count)")

    def test_the_kinds_of_the_answers(self):
        for count in (0, 1, 2, 5):
            for asked in (most_turns, fewest_turns):
                self.assertIs(type(asked(3, count)), int)
            for asked in (slow_hands, quick_hands):
                self.assertIs(type(asked(3, count)), list)
                self.assertEqual([type(hand) for hand in asked(3, count)], [int] * count)


class TheMostAndTheFewest(unittest.TestCase):
    def assert_bounds(self, width, count, most, fewest):
        self.assertEqual(most_turns(width, count), most)
        self.assertEqual(fewest_turns(width, count), fewest)

    def test_nobody_and_one(self):
        for width in (0, 1, 3, 61, 200):
            self.assert_bounds(width, 0, 1, 1)
            self.assert_bounds(width, 1, 1, 1)

    def test_two_and_three(self):
        for width in (2, 3, 61, 200):
            self.assert_bounds(width, 2, 2 * width + 1, 3)
            self.assert_bounds(width, 3, 2 * width + 1, 5)
        self.assert_bounds(1, 2, 3, 3)

    def test_several(self):
        self.assert_bounds(3, 4, 11, 7)
        self.assert_bounds(3, 5, 11, 9)
        self.assert_bounds(3, 6, 13, 11)
        self.assert_bounds(4, 6, 19, 11)
        self.assert_bounds(7, 120, 247, 239)
        self.assert_bounds(200, 120, 1 + 2 * (63 + 194 * 60), 239)

    def test_all_numbers_of_the_line(self):
        for width in (0, 1, 2, 3, 7, 60, 200):
            self.assert_bounds(width, 2**width, 2 * 2**width - 1, 2 * 2**width - 1)

    def test_all_but_one(self):
        for width in (2, 3, 60, 200):
            self.assert_bounds(width, 2**width - 1, 2 * 2**width - 3, 2 * 2**width - 3)

    def test_counts_of_many_figures(self):
        # Up to the level 100 all halves can be dins, from there on one for each pair.
        self.assert_bounds(200, 2**101, 1 + 2 * (2**100 - 1 + 100 * 2**100), 2**102 - 1)
        self.assert_bounds(200, 2**101 + 1, 1 + 2 * (2**100 - 1 + 100 * 2**100), 2**102 + 1)
        count = 10**60
        most = 1 + 2 * (2**199 - 1) + 2 * min(2**199, count // 2)
        self.assertLess(count // 2, 2**199)
        self.assertGreater(count // 2, 2**198)
        self.assert_bounds(200, count, most, 2 * count - 1)

    def test_no_set_of_a_small_line_takes_more_or_fewer(self):
        for width in range(5):
            lengths = {}
            for hands in all_sets(width):
                lengths.setdefault(len(hands), []).append(turns(hands, width))
            self.assertEqual(sorted(lengths), list(range(2**width + 1)))
            for count, told in lengths.items():
                self.assert_bounds(width, count, max(told), min(told))

    def test_too_many(self):
        for width, count in TOO_MANY:
            with self.subTest(width=width, count=count):
                assert_refused(self, NoHands, most_turns, width, count)
                assert_refused(self, NoHands, fewest_turns, width, count)


class SlowAndQuickHands(unittest.TestCase):
    def assert_hands(self, hands, width, count):
        self.assertEqual(len(hands), count)
        self.assertEqual(hands, sorted(set(hands)))
        for hand in hands:
            self.assertIs(type(hand), int)
            self.assertTrue(0 <= hand < 2**width)

    def assert_slow_and_quick(self, width, count):
        slow = slow_hands(width, count)
        self.assert_hands(slow, width, count)
        self.assertEqual(turns(slow, width), most_turns(width, count))
        quick = quick_hands(width, count)
        self.assert_hands(quick, width, count)
        self.assertEqual(turns(quick, width), fewest_turns(width, count))

    # As turns are told without a talk, the talk itself is asked too.
    def assert_talks(self, width, count):
        for hands, wanted in (
            (slow_hands(width, count), most_turns(width, count)),
            (quick_hands(width, count), fewest_turns(width, count)),
        ):
            book = talk(hands, top_of(width))
            self.assertEqual(len(book), wanted)
            self.assertEqual(words(book), hands)

    def test_nobody(self):
        for width in (0, 1, 3, 200):
            self.assertEqual(slow_hands(width, 0), [])
            self.assertEqual(quick_hands(width, 0), [])

    def test_all_numbers_of_the_line(self):
        for width in (0, 1, 2, 3, 6):
            self.assertEqual(slow_hands(width, 2**width), list(range(2**width)))
            self.assertEqual(quick_hands(width, 2**width), list(range(2**width)))

    def test_every_count_of_small_lines(self):
        for width in range(7):
            for count in range(2**width + 1):
                self.assert_slow_and_quick(width, count)
                self.assert_talks(width, count)

    def test_every_count_up_to_a_hundred_and_twenty(self):
        for width in (7, 8, 31, 61, 100, 199, 200):
            for count in range(121):
                self.assert_slow_and_quick(width, count)

    def test_the_talks_on_great_lines(self):
        for width in (7, 61, 200):
            for count in (1, 2, 3, 4, 7, 63, 64, 65, 119, 120):
                self.assert_talks(width, count)

    def test_too_many(self):
        for width, count in TOO_MANY:
            with self.subTest(width=width, count=count):
                assert_refused(self, NoHands, slow_hands, width, count)
                assert_refused(self, NoHands, quick_hands, width, count)

    def test_each_list_is_a_new_one(self):
        for asked in (slow_hands, quick_hands):
            for count in (0, 1, 5):
                first = asked(3, count)
                before = list(first)
                second = asked(3, count)
                self.assertIsNot(first, second)
                first.append(99)
                self.assertEqual(second, before)
                self.assertEqual(asked(3, count), before)


if __name__ == "__main__":
    unittest.main()
