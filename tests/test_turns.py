"""Points 14 to 16: common bits, dins, turns and the turn of a hand; points 2, 3 and 9 where they touch these."""

import inspect
import unittest

from shoutline.errors import NoHand
from shoutline.spans import top_of
from shoutline.talks import talk
from shoutline.turns import common_bits, dins, turn_of, turns
from tests.helper import NOT_ON_LINE, SIXTY_ONE_FIGURES, all_sets, assert_no_hands, assert_refused

# Hands on lines of many bits, each with a width.
GREAT = (
    ([0, 1], 200),
    ([2**200 - 1, 2**200 - 2], 200),
    ([0, 2**200 - 1], 200),
    ([2**199, 2**199 - 1, 0], 200),
    ([2**bits for bits in range(120)], 200),
    ([2**200 - 2**bits for bits in range(120)], 200),
    ([7**number % 2**200 for number in range(60, 180)], 200),
    ([2 * number for number in range(120)], 61),
    ([5 * number for number in range(120)], 10),
    ([119 - number for number in range(120)], 7),
)


# The leading bits as texts, compared one by one.
def common_again(one, other, width):
    first, second = [bin(number)[2:].zfill(width)[:width] for number in (one, other)]
    count = 0
    while count < width and first[count] == second[count]:
        count += 1
    return count


class TheInterface(unittest.TestCase):
    def test_the_arguments(self):
        self.assertEqual(str(inspect.signature(common_bits)), "(one, other, width)")
        self.assertEqual(str(inspect.signature(dins)), "(hands, width)")
        self.assertEqual(str(inspect.signature(turns)), "(hands, width)")
        self.assertEqual(str(inspect.signature(turn_of)), "(hands, width, number)")

    def test_the_kinds_of_the_answers(self):
        answers = [common_bits(0, 0, 0), common_bits(1, 2, 3)]
        for hands in ([5], [1, 4, 5]):
            answers = answers + [dins(hands, 3), turns(hands, 3), turn_of(hands, 3, 5)]
        for answer in answers:
            self.assertIs(type(answer), int)


class CommonBits(unittest.TestCase):
    def assert_common(self, one, other, width, wanted):
        self.assertEqual(common_bits(one, other, width), wanted)
        self.assertEqual(common_bits(other, one, width), wanted)

    def test_at_the_width_0(self):
        self.assert_common(0, 0, 0, 0)

    def test_at_the_width_1(self):
        self.assert_common(0, 0, 1, 1)
        self.assert_common(1, 1, 1, 1)
        self.assert_common(0, 1, 1, 0)

    def test_of_the_same_numbers(self):
        for width in (1, 3, 61, 199, 200):
            for number in (0, 1, 2**width // 3, 2**width - 1):
                self.assert_common(number, number, width, width)

    def test_where_the_first_bit_differs(self):
        for width in (1, 2, 3, 61, 200):
            self.assert_common(0, 2 ** (width - 1), width, 0)
            self.assert_common(2 ** (width - 1) - 1, 2**width - 1, width, 0)
            self.assert_common(2 ** (width - 1) - 1, 2 ** (width - 1), width, 0)

    def test_where_the_last_bit_alone_differs(self):
        for width in (1, 2, 3, 61, 200):
            self.assert_common(0, 1, width, width - 1)
            self.assert_common(2**width - 2, 2**width - 1, width, width - 1)

    def test_bits_behind_the_first_that_differs_do_not_count(self):
        self.assert_common(0b1010, 0b1110, 4, 1)
        self.assert_common(0b0111, 0b0000, 4, 1)
        self.assert_common(0b0101, 0b0110, 4, 2)

    def test_the_width_counts(self):
        self.assert_common(5, 6, 3, 1)
        self.assert_common(5, 6, 4, 2)
        self.assert_common(5, 6, 200, 198)

    def test_all_of_small_lines(self):
        for width in range(5):
            for one in range(2**width):
                for other in range(2**width):
                    self.assert_common(one, other, width, common_again(one, other, width))

    def test_each_bit_of_two_hundred(self):
        for one in (0, 2**200 - 1, 2**200 // 3):
            for bit in range(200):
                self.assert_common(one, one ^ 2**bit, 200, 199 - bit)


# For test cases that say, as assert_as_the_talk, what must be as in the talk.
class AgainstTheTalk:
    def test_every_set_of_a_small_line(self):
        for width in range(4):
            for hands in all_sets(width):
                self.assert_as_the_talk(hands, width)
                self.assert_as_the_talk(hands[::-1], width + 2)

    def test_great_lines(self):
        for hands, width in GREAT:
            self.assert_as_the_talk(hands, width)
            self.assert_as_the_talk(hands[1::2] + hands[::2], width)


class DinsAndTurns(AgainstTheTalk, unittest.TestCase):
    def assert_turns(self, hands, width, wanted):
        before = list(hands)
        self.assertEqual(dins(hands, width), wanted)
        self.assertEqual(turns(hands, width), 2 * wanted + 1)
        self.assertEqual(hands, before)

    def assert_as_the_talk(self, hands, width):
        book = talk(hands, top_of(width))
        self.assert_turns(hands, width, [answer for span, answer in book].count(("din",)))
        self.assertEqual(turns(hands, width), len(book))

    def test_fewer_than_two(self):
        for width in (0, 1, 3, 200):
            self.assert_turns([], width, 0)
            self.assert_turns([0], width, 0)
            self.assert_turns([2**width - 1], width, 0)

    def test_two(self):
        self.assert_turns([0, 1], 1, 1)
        self.assert_turns([0, 7], 3, 1)
        self.assert_turns([3, 4], 3, 1)
        self.assert_turns([1, 3], 3, 2)
        self.assert_turns([7, 6], 3, 3)
        self.assert_turns([0, 1], 200, 200)

    def test_several(self):
        self.assert_turns([6, 1, 4], 3, 2)
        self.assert_turns([0, 1, 6, 7], 3, 5)
        self.assert_turns([7, 5, 3, 1], 3, 3)
        self.assert_turns(list(range(8)), 3, 7)
        # The common bits are 1, 0 and 1, then: only what is above the one before counts.
        self.assert_turns([0, 2, 4, 6], 3, 3)
        self.assert_turns([0, 1, 2, 4], 3, 3)

    def test_not_on_the_line(self):
        for hands, width in NOT_ON_LINE:
            with self.subTest(hands=hands, width=width):
                assert_no_hands(self, dins, list(hands), width)
                assert_no_hands(self, turns, list(hands), width)


class TheTurnOfAHand(AgainstTheTalk, unittest.TestCase):
    def assert_as_the_talk(self, hands, width):
        before = list(hands)
        heard = [answer for span, answer in talk(hands, top_of(width))]
        for hand in hands:
            self.assertEqual(turn_of(hands, width, hand), heard.index(("word", hand)))
        self.assertEqual(hands, before)

    def test_the_only_one(self):
        for width in (0, 1, 3, 200):
            self.assertEqual(turn_of([0], width, 0), 0)
            self.assertEqual(turn_of([2**width - 1], width, 2**width - 1), 0)

    def test_of_some(self):
        self.assertEqual([turn_of([6, 1, 4], 3, hand) for hand in (1, 4, 6)], [1, 3, 4])
        self.assertEqual([turn_of([7, 6], 3, hand) for hand in (6, 7)], [5, 6])
        self.assertEqual([turn_of([0, 1], 3, hand) for hand in (0, 1)], [3, 4])
        self.assertEqual([turn_of([1, 14, 9, 2], 4, hand) for hand in (1, 2, 9, 14)], [3, 4, 7, 8])

    def test_none_of_them(self):
        for hands, width, number in (
            ([], 0, 0),
            ([], 3, 5),
            ([0], 0, 1),
            ([1, 4, 6], 3, 0),
            ([1, 4, 6], 3, 5),
            ([1, 4, 6], 3, 7),
            ([1, 4, 6], 3, 8),
            ([1, 4, 6], 3, -1),
            ([1, 4, 6], 3, -4),
            ([1, 4, 6], 3, SIXTY_ONE_FIGURES),
            ([1, 4, 6], 200, 2**200),
        ):
            with self.subTest(hands=hands, width=width, number=number):
                before = list(hands)
                assert_refused(self, NoHand, turn_of, hands, width, number)
                self.assertEqual(hands, before)

    def test_not_on_the_line_goes_ahead(self):
        for hands, width in NOT_ON_LINE:
            for number in (hands[0], 2**width - 1, 99, -1):
                with self.subTest(hands=hands, width=width, number=number):
                    assert_no_hands(self, turn_of, list(hands), width, number)


if __name__ == "__main__":
    unittest.main()
