"""Points 5 to 8: halves, open spans and tops; points 2 and 3 where they touch these."""

import inspect
import unittest

from shoutline.errors import NoSpan
from shoutline.spans import Half, Open, Span, top_of
from tests.helper import SIXTY_ONE_FIGURES, assert_refused


class TheInterface(unittest.TestCase):
    def test_both_kinds_are_spans(self):
        self.assertEqual(Half.__bases__, (Span,))
        self.assertEqual(Open.__bases__, (Span,))
        self.assertIsInstance(Half(0, 3), Span)
        self.assertIsInstance(Open(0), Span)
        self.assertNotIsInstance(Half(0, 3), Open)
        self.assertNotIsInstance(Open(0), Half)

    def test_the_arguments(self):
        self.assertEqual(str(inspect.signature(Half)), "(low, bits)")
        self.assertEqual(str(inspect.signature(Open)), "(low)")
        self.assertEqual(str(inspect.signature(top_of)), "(width=None)")
        for kind in (Span, Half, Open):
            with self.subTest(kind=kind.__name__):
                self.assertEqual(str(inspect.signature(kind.holds)), "(self, number)")
                self.assertEqual(str(inspect.signature(kind.lowest)), "(self)")
                self.assertEqual(str(inspect.signature(kind.halves)), "(self)")
                self.assertEqual(str(inspect.signature(kind.shown)), "(self)")
                self.assertEqual(str(inspect.signature(kind.alike)), "(self, other)")

    def test_the_kinds_of_the_answers(self):
        for span in (Half(4, 2), Open(4)):
            with self.subTest(span=span.shown()):
                self.assertIs(span.holds(4), True)
                self.assertIs(span.holds(3), False)
                self.assertIs(type(span.lowest()), int)
                self.assertIs(type(span.shown()), str)
                self.assertIs(type(span.halves()), tuple)
                self.assertEqual(len(span.halves()), 2)
                self.assertIs(span.alike(span), True)
                self.assertIs(span.alike(Half(0, 0)), False)


class WhatLiesInAHalf(unittest.TestCase):
    def assert_ends(self, half, first, last):
        self.assertIs(half.holds(first - 1), False)
        self.assertIs(half.holds(first), True)
        self.assertIs(half.holds(last), True)
        self.assertIs(half.holds(last + 1), False)

    def test_both_ends(self):
        self.assert_ends(Half(8, 3), 8, 15)
        self.assert_ends(Half(0, 3), 0, 7)
        self.assert_ends(Half(6, 1), 6, 7)
        self.assert_ends(Half(24, 2), 24, 27)

    def test_a_half_of_no_bits_holds_one_number(self):
        self.assert_ends(Half(0, 0), 0, 0)
        self.assert_ends(Half(5, 0), 5, 5)
        self.assert_ends(Half(SIXTY_ONE_FIGURES, 0), SIXTY_ONE_FIGURES, SIXTY_ONE_FIGURES)

    def test_great_halves(self):
        self.assert_ends(Half(0, 200), 0, 2**200 - 1)
        self.assert_ends(Half(2**200, 200), 2**200, 2**201 - 1)
        self.assert_ends(Half(3 * 2**198, 198), 3 * 2**198, 2**200 - 1)
        self.assertIs(Half(0, 200).holds(SIXTY_ONE_FIGURES), False)

    def test_a_little_beyond_two_hundred_bits_is_not_refused(self):
        self.assert_ends(Half(0, 210), 0, 2**210 - 1)

    def test_numbers_below_0(self):
        for half in (Half(0, 0), Half(0, 3), Half(8, 3), Half(0, 200)):
            for number in (-1, -7, -8, -9, -16, -(2**200), -SIXTY_ONE_FIGURES):
                with self.subTest(half=half.shown(), number=number):
                    self.assertIs(half.holds(number), False)

    def test_all_small_halves(self):
        for bits in range(5):
            for low in range(0, 33, 2**bits):
                inside = [number for number in range(-20, 70) if Half(low, bits).holds(number)]
                with self.subTest(low=low, bits=bits):
                    self.assertEqual(inside, list(range(low, low + 2**bits)))


class WhatLiesInAnOpenSpan(unittest.TestCase):
    def test_from_0(self):
        self.assertIs(Open(0).holds(-1), False)
        self.assertIs(Open(0).holds(-SIXTY_ONE_FIGURES), False)
        self.assertIs(Open(0).holds(0), True)
        self.assertIs(Open(0).holds(1), True)
        self.assertIs(Open(0).holds(SIXTY_ONE_FIGURES), True)

    def test_from_powers_of_two(self):
        for low in (1, 2, 4, 64, 2**199, 2**200):
            with self.subTest(low=low):
                self.assertIs(Open(low).holds(-low), False)
                self.assertIs(Open(low).holds(-1), False)
                self.assertIs(Open(low).holds(0), False)
                self.assertIs(Open(low).holds(low - 1), False)
                self.assertIs(Open(low).holds(low), True)
                self.assertIs(Open(low).holds(low + 1), True)
                self.assertIs(Open(low).holds(2 * low), True)
                self.assertIs(Open(low).holds(SIXTY_ONE_FIGURES), True)


class WhatIsNoSpan(unittest.TestCase):
    def test_a_low_number_that_is_no_multiple(self):
        for low, bits in ((1, 1), (4, 3), (12, 3), (7, 2), (2**199, 200), (2**200 + 1, 1), (1, 200)):
            with self.subTest(low=low, bits=bits):
                assert_refused(self, NoSpan, Half, low, bits)

    def test_a_low_number_below_0(self):
        for low, bits in ((-1, 0), (-2, 1), (-8, 3), (-8, 0), (-(2**200), 200)):
            with self.subTest(low=low, bits=bits):
                assert_refused(self, NoSpan, Half, low, bits)

    def test_bits_below_0(self):
        for low, bits in ((0, -1), (8, -1), (1, -200), (-1, -1), (0, -SIXTY_ONE_FIGURES)):
            with self.subTest(low=low, bits=bits):
                assert_refused(self, NoSpan, Half, low, bits)

    def test_just_the_multiples_are_halves(self):
        for bits in range(5):
            for low in range(40):
                with self.subTest(low=low, bits=bits):
                    if low % 2**bits == 0:
                        self.assertEqual(Half(low, bits).low, low)
                    else:
                        assert_refused(self, NoSpan, Half, low, bits)

    def test_an_open_span_from_below_0(self):
        for low in (-1, -2, -3, -4, -(2**200), -SIXTY_ONE_FIGURES):
            with self.subTest(low=low):
                assert_refused(self, NoSpan, Open, low)

    def test_just_0_and_the_powers_of_two_begin_open_spans(self):
        lows = [0, 1, 2, 4, 8, 16, 32, 64]
        for low in range(100):
            with self.subTest(low=low):
                if low in lows:
                    self.assertEqual(Open(low).low, low)
                else:
                    assert_refused(self, NoSpan, Open, low)

    def test_great_numbers_that_are_no_power_of_two(self):
        for low in (2**200 - 1, 2**200 + 1, 3 * 2**198, SIXTY_ONE_FIGURES):
            with self.subTest(low=low):
                assert_refused(self, NoSpan, Open, low)

    def test_a_truth_is_no_whole_number(self):
        assert_refused(self, NoSpan, Half, False, 0)
        assert_refused(self, NoSpan, Half, True, 0)
        assert_refused(self, NoSpan, Half, 0, False)
        assert_refused(self, NoSpan, Half, 2, True)
        assert_refused(self, NoSpan, Open, False)
        assert_refused(self, NoSpan, Open, True)


class TheHalves(unittest.TestCase):
    def assert_halves(self, span, lower, upper):
        self.assertIs(type(span.halves()), tuple)
        self.assertEqual(len(span.halves()), 2)
        self.assertTrue(span.halves()[0].alike(lower), span.halves()[0].shown())
        self.assertTrue(span.halves()[1].alike(upper), span.halves()[1].shown())

    def test_of_a_half(self):
        self.assert_halves(Half(0, 3), Half(0, 2), Half(4, 2))
        self.assert_halves(Half(8, 3), Half(8, 2), Half(12, 2))
        self.assert_halves(Half(6, 1), Half(6, 0), Half(7, 0))

    def test_of_a_great_half(self):
        self.assert_halves(Half(0, 200), Half(0, 199), Half(2**199, 199))
        self.assert_halves(Half(2**200, 200), Half(2**200, 199), Half(2**200 + 2**199, 199))

    def test_of_the_open_span_from_0(self):
        self.assert_halves(Open(0), Half(0, 0), Open(1))

    def test_of_an_open_span_from_another_number(self):
        self.assert_halves(Open(1), Half(1, 0), Open(2))
        self.assert_halves(Open(2), Half(2, 1), Open(4))
        self.assert_halves(Open(64), Half(64, 6), Open(128))
        self.assert_halves(Open(2**200), Half(2**200, 200), Open(2**201))

    def test_each_number_of_a_span_lies_in_just_one_of_its_halves(self):
        for span in (Half(0, 1), Half(8, 3), Half(16, 4), Open(0), Open(1), Open(2), Open(8)):
            lower, upper = span.halves()
            for number in range(-5, 50):
                with self.subTest(span=span.shown(), number=number):
                    inside = [lower.holds(number), upper.holds(number)].count(True)
                    self.assertEqual(inside, 1 if span.holds(number) else 0)

    def test_of_a_half_of_no_bits_there_are_none(self):
        for low in (0, 1, 6, 2**200, SIXTY_ONE_FIGURES):
            with self.subTest(low=low):
                assert_refused(self, NoSpan, Half(low, 0).halves)

    def test_asking_changes_nothing(self):
        single = Half(6, 0)
        assert_refused(self, NoSpan, single.halves)
        self.assertEqual((single.low, single.bits), (6, 0))
        half = Half(8, 3)
        half.halves()
        self.assertEqual((half.low, half.bits), (8, 3))
        unended = Open(4)
        unended.halves()
        self.assertEqual(unended.low, 4)


class Alike(unittest.TestCase):
    def assert_alike(self, one, other, wanted):
        self.assertIs(one.alike(other), wanted)
        self.assertIs(other.alike(one), wanted)

    def test_two_halves(self):
        self.assert_alike(Half(8, 3), Half(8, 3), True)
        self.assert_alike(Half(8, 3), Half(8, 2), False)
        self.assert_alike(Half(8, 3), Half(16, 3), False)
        self.assert_alike(Half(0, 0), Half(0, 1), False)
        self.assert_alike(Half(2**200, 200), Half(2**200, 200), True)
        self.assert_alike(Half(2**200, 200), Half(2**200, 199), False)

    def test_two_open_spans(self):
        self.assert_alike(Open(0), Open(0), True)
        self.assert_alike(Open(4), Open(4), True)
        self.assert_alike(Open(0), Open(1), False)
        self.assert_alike(Open(4), Open(8), False)
        self.assert_alike(Open(2**200), Open(2**200), True)

    def test_two_kinds_with_the_same_low_number(self):
        self.assert_alike(Half(0, 0), Open(0), False)
        self.assert_alike(Half(0, 200), Open(0), False)
        self.assert_alike(Half(1, 0), Open(1), False)
        self.assert_alike(Half(4, 2), Open(4), False)

    def test_a_span_is_alike_to_itself(self):
        for span in (Half(8, 3), Open(8)):
            self.assert_alike(span, span, True)


class WhatASpanTells(unittest.TestCase):
    def test_the_fields(self):
        half = Half(24, 3)
        self.assertEqual((half.low, half.bits), (24, 3))
        self.assertEqual(Open(16).low, 16)
        lower, upper = half.halves()
        self.assertEqual((lower.low, lower.bits, upper.low, upper.bits), (24, 2, 28, 2))

    def test_the_lowest_number(self):
        self.assertEqual(Half(0, 0).lowest(), 0)
        self.assertEqual(Half(24, 3).lowest(), 24)
        self.assertEqual(Half(2**200, 200).lowest(), 2**200)
        self.assertEqual(Open(0).lowest(), 0)
        self.assertEqual(Open(16).lowest(), 16)
        self.assertEqual(Open(2**200).lowest(), 2**200)

    def test_the_text_of_a_half(self):
        self.assertEqual(Half(0, 0).shown(), "0+0")
        self.assertEqual(Half(24, 3).shown(), "24+3")
        self.assertEqual(Half(0, 200).shown(), "0+200")
        self.assertEqual(
            Half(2**200, 200).shown(),
            "1606938044258990275541962092341162602522202993782792835301376+200",
        )

    def test_the_text_of_an_open_span(self):
        self.assertEqual(Open(0).shown(), "0+")
        self.assertEqual(Open(1).shown(), "1+")
        self.assertEqual(Open(16).shown(), "16+")
        self.assertEqual(
            Open(2**200).shown(),
            "1606938044258990275541962092341162602522202993782792835301376+",
        )


class TheTop(unittest.TestCase):
    def test_of_width_0(self):
        top = top_of(0)
        self.assertTrue(top.alike(Half(0, 0)))
        self.assertEqual([number for number in range(-3, 4) if top.holds(number)], [0])

    def test_of_a_width(self):
        self.assertTrue(top_of(3).alike(Half(0, 3)))
        self.assertEqual((top_of(3).low, top_of(3).bits), (0, 3))

    def test_of_a_great_width(self):
        self.assertTrue(top_of(200).alike(Half(0, 200)))
        self.assertIs(top_of(200).holds(2**200 - 1), True)
        self.assertIs(top_of(200).holds(2**200), False)

    def test_of_none(self):
        self.assertTrue(top_of(None).alike(Open(0)))
        self.assertTrue(top_of().alike(Open(0)))
        self.assertIs(top_of().holds(SIXTY_ONE_FIGURES), True)

    def test_a_width_below_0_has_none(self):
        assert_refused(self, NoSpan, top_of, -1)
        assert_refused(self, NoSpan, top_of, -200)


if __name__ == "__main__":
    unittest.main()
