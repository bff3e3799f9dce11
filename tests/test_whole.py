"""Point 4: the promise of the whole, from one module to another, mostly as a desk tells it."""

import unittest

from shoutline.bounds import fewest_turns, most_turns, quick_hands, slow_hands
from shoutline.comings import hearings, meetings
from shoutline.errors import LineError, NoHand, NoHands
from shoutline.halls import Hall, Hand
from shoutline.papers import fits, gap, is_of, shown_hands
from shoutline.shorts import saving, short_is_right
from shoutline.spans import top_of
from shoutline.talks import words
from shoutline.texts import read_book
from shoutline.turns import dins, turn_of, turns
from tests.helper import SIXTY_FIGURES, all_sets, desk_with

# Hands on the line of two hundred bits that a desk can be told.
GREAT = (
    [],
    [0],
    [SIXTY_FIGURES],
    [0, 1],
    [2**198, 2**198 + 1],
    [0, 2**199],
    [2**bits for bits in range(120)],
    [2**199 - 2**bits for bits in range(100)],
    [7**number % 2**199 for number in range(60, 180)],
    [2**190 * number + 5 for number in range(120)],
)


def desk_of(hands, width):
    return desk_with("open" if width is None else f"line {width}", hands)


class OfTheWhole(unittest.TestCase):
    def assert_talk(self, hands, width):
        desk = desk_of(hands[::-1], width)
        text = desk.told("talk")
        other = desk_of([], width)
        rising = " ".join(["right"] + [str(hand) for hand in sorted(hands)])
        self.assertEqual(other.told("check " + text), rising)
        self.assertEqual(words(read_book(text)), sorted(hands))
        return read_book(text)

    def assert_turns(self, hands, width):
        desk = desk_of(hands, width)
        book = self.assert_talk(hands, width)
        self.assertEqual(desk.told("turns"), str(len(book)))
        for hand in hands:
            self.assertEqual(book[turn_of(hands, width, hand)][1], ("word", hand))
        self.assertLessEqual(len(book), most_turns(width, len(hands)))
        self.assertGreaterEqual(len(book), fewest_turns(width, len(hands)))

    def assert_short(self, hands, width):
        desk = desk_of(hands, width)
        short = read_book(desk.told("short"))
        self.assertEqual(len(short), int(desk.told("turns")) - saving(hands, width))
        self.assertTrue(short_is_right(short, top_of(width)))
        self.assertEqual(words(short), sorted(hands))

    def assert_paper(self, hands, width):
        paper = read_book(desk_of(hands, width).told("paper"))
        self.assertEqual(len(paper), dins(hands, width) + 1)
        self.assertTrue(fits(paper, width))
        self.assertTrue(is_of(paper, hands))
        self.assertIsNone(gap(paper, width))
        self.assertEqual(shown_hands(paper, width), sorted(hands))

    def assert_search(self, hands, width):
        desk = desk_of(hands, width)
        for order, found in (("least", min), ("greatest", max)):
            number, amid, calls = desk.told(order).split(" ")
            self.assertEqual(number, str(found(hands)) if hands else "nobody")
            self.assertEqual(amid, "in")
            self.assertLessEqual(int(calls), width + 1)

    # Each hand comes in a turn of its own reckoning.
    def assert_comings(self, hands, width, step):
        comings = [(step * (place * place % 5), hand) for place, hand in enumerate(hands)]
        told = hearings(comings, width)
        self.assertEqual(sorted(number for number, came, turn in told), sorted(hands))
        self.assertEqual(len({turn for number, came, turn in told}), len(hands))
        for begin, together, length in meetings(comings, width):
            self.assertEqual(desk_of(together, width).told("turns"), str(length))

    def assert_whole(self, hands, width):
        self.assert_turns(hands, width)
        self.assert_short(hands, width)
        self.assert_paper(hands, width)
        self.assert_search(hands, width)
        for step in (0, 1, 4):
            self.assert_comings(hands, width, step)


class TheWhole(OfTheWhole):
    def test_every_set_of_a_small_line(self):
        for width in range(5):
            for hands in all_sets(width)[::97 if width == 4 else 1]:
                self.assert_whole(hands, width)

    def test_great_lines(self):
        for hands in GREAT:
            self.assert_whole(hands, 200)

    def test_the_line_without_a_width(self):
        for hands in all_sets(3) + [list(hands) for hands in GREAT if max(hands, default=0) < 2**199]:
            self.assert_talk(hands, None)
            short = read_book(desk_of(hands, None).told("short"))
            self.assertTrue(short_is_right(short, top_of()))
            self.assertEqual(words(short), sorted(hands))

    def test_the_slowest_and_the_quickest(self):
        for width in (0, 1, 2, 3, 7, 199):
            for count in (0, 1, 2, 3, 5, 8, 119, 120):
                if count <= 2**width:
                    slow, quick = slow_hands(width, count), quick_hands(width, count)
                    self.assertEqual(desk_of(slow, width).told("turns"), str(most_turns(width, count)))
                    self.assertEqual(desk_of(quick, width).told("turns"), str(fewest_turns(width, count)))

    def test_a_book_of_other_hands_is_not_the_talk(self):
        desk = desk_of([], 3)
        texts = {}
        for hands in all_sets(3):
            texts[desk_of(hands, 3).told("talk")] = desk.told("check " + desk_of(hands, 3).told("talk"))
        self.assertEqual(len(texts), 256)
        self.assertEqual(len(set(texts.values())), 256)

    def test_halls_talk_as_desks_do(self):
        inner = [Hall(number, 3, [Hand(hand, f"{number}/{hand}") for hand in hands])
                 for number, hands in enumerate(([0, 1], [2, 5, 7], [], [6]))]
        hall = Hall(0, 4, inner)
        longest = max(int(desk_of(hands, 3).told("turns")) for hands in ([0, 1], [2, 5, 7], [], [6]))
        self.assertEqual(hall.time(), longest + turns([0, 1, 2, 3], 4))
        for name in hall.names():
            self.assertEqual("/".join(str(number) for number in hall.call(name)), name)


class AWorkingDay(unittest.TestCase):
    # Many orders in a row, beside a plain list of who should be there.
    def test_a_desk_keeps_count(self):
        for width in (3, 6, 199):
            desk, present, number = desk_of([], width), [], 1
            for step in range(700):
                number = number * 75 % 65537
                hand = number % 2 ** min(width, 9) if step % 5 else number
                order = "come" if number // 512 % 3 else "go"
                try:
                    told = desk.told(f"{order} {hand}")
                except NoHands:
                    self.assertEqual(order, "come")
                    self.assertTrue(hand in present or hand >= 2**width or len(present) == 120)
                    continue
                except NoHand:
                    self.assertEqual(order, "go")
                    self.assertNotIn(hand, present)
                    continue
                if order == "come":
                    self.assertTrue(hand not in present and hand < 2**width and len(present) < 120)
                    present.append(hand)
                else:
                    present.remove(hand)
                self.assertEqual(told, str(len(present)))
                if step % 10 == 0:
                    self.assertEqual(desk.told("turns"), str(turns(present, width)))
                    self.assertEqual(words(read_book(desk.told("paper"))), sorted(present))

    def test_refusals_of_all_kinds_are_line_errors(self):
        desk = desk_of([1], 3)
        for order in ("", None, "come 1", "come 8", "go 0", "check x", "line 201"):
            with self.assertRaises(LineError):
                desk.told(order)
        self.assertEqual(desk.told("talk"), "0+3 1")


if __name__ == "__main__":
    unittest.main()
