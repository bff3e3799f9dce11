"""Points 31 and 32: the desk, its orders and its refusals; points 2, 3 and 9 where they touch these."""

import inspect
import itertools
import unittest

from shoutline.books import cut
from shoutline.desk import Desk
from shoutline.errors import LineError, NoHand, NoHands, NoLine, NoOrder, NoText
from shoutline.papers import least_paper
from shoutline.search import greatest, least
from shoutline.shorts import short_talk
from shoutline.spans import top_of
from shoutline.talks import talk, words
from shoutline.texts import read_book, shown_book
from shoutline.turns import turns
from tests.helper import SIXTY_FIGURES, SIXTY_ONE_FIGURES, all_sets, assert_refused, desk_with

ALONE = ("talk", "short", "turns", "least", "greatest", "paper")
OF_A_WIDTH = ("turns", "least", "greatest", "paper")

NO_NUMBERS = (
    "",
    " ",
    "00",
    "01",
    "007",
    "-1",
    "+1",
    "1_0",
    "1.0",
    "1e3",
    "0x1",
    "a",
    "5a",
    "five",
    "5 ",
    " 5",
    "5 5",
    "5\t",
    "\t5",
    "5\n",
    "\n5",
    "5;",
    "1" * 61,
    str(10**60),
    "0" * 61,
    "1" * 5000,
)

NO_ORDERS = (
    "",
    " ",
    "\n",
    "\t",
    "line",
    "line ",
    "lines 3",
    "line3",
    "line  3",
    " line 3",
    "line 3 ",
    "line 3 3",
    "line\t3",
    "line\n3",
    "Line 3",
    "LINE 3",
    "line -1",
    "line 03",
    "line 201",
    "line 202",
    "line 210",
    "line 300",
    "line 1000",
    "line three",
    "line open",
    "line None",
    "line " + "1" * 61,
    "open ",
    " open",
    "open 3",
    "open line",
    "Open",
    "OPEN",
    "opens",
    "come",
    "come ",
    "Come 5",
    "COME 5",
    "comes 5",
    "come5",
    "go",
    "go ",
    "Go 5",
    "GO 5",
    "goes 5",
    "go5",
    "check",
    "Check silence",
    "CHECK silence",
    " check silence",
    "check\tsilence",
    "check\nsilence",
    "checks silence",
    "checksilence",
    "silence",
    "hush",
    "din",
    "word",
    "nobody",
    "right",
    "cut at 0",
    "none",
    "quit",
    "help",
    "5",
    "0+3 hush",
    "talk; short",
    "talk\ntalk",
    "long",
    "names",
    "greatest least",
) + tuple(
    form.replace("{}", order)
    for order in ALONE
    for form in ("{} ", " {}", "{}\n", "\n{}", "{}\t", "{}  ", "{} 1", "{} {}", "{}s", "{} talk", "{};")
) + tuple(order.upper() for order in ALONE) + tuple(order.title() for order in ALONE) + tuple(
    f"{order} {wrong}" for order in ("line", "come", "go") for wrong in NO_NUMBERS
)

NO_TEXTS = (
    None,
    True,
    False,
    0,
    1,
    -1,
    SIXTY_ONE_FIGURES,
    [],
    ["talk"],
    ["line 3"],
    ("talk",),
    {},
    {"talk": 1},
    b"talk",
    1.5,
    object(),
    str,
    Desk,
)

NO_BOOKS = (
    "",
    " ",
    "\n",
    "x",
    "talk",
    "0+3",
    "0+3 hush ",
    " 0+3 hush",
    "  0+3 hush",
    "0+3  hush",
    "0+3 Hush",
    "0+3 hush;",
    "0+3 hush; ",
    "0+3 hush\n",
    "\t0+3 hush",
    "0+3 din;0+2 1",
    "1+3 hush",
    "3+ hush",
    "0+201 hush",
    "0+3 05",
    "0+3 -1",
    "0+3 " + "1" * 61,
    "silence ",
    " silence",
    "Silence",
    "silence; 0+3 hush",
    "check silence",
)


# What a desk answers to orders that do not change it, refusals among them:
# two desks with the same hands on the same line tell the same.
def state_of(desk):
    told = []
    for order in ALONE + ("check silence", "check 0+3 hush"):
        try:
            told.append(desk.told(order))
        except LineError as error:
            told.append(type(error))
    return told


class TheInterface(unittest.TestCase):
    def test_the_arguments(self):
        self.assertEqual(str(inspect.signature(Desk)), "()")
        self.assertEqual(str(inspect.signature(Desk.told)), "(self, order)")

    def test_every_answer_is_a_text(self):
        desk = Desk()
        for order in ("line 3", "come 5", "come 1", "check silence", "check 0+3 5", "go 1", "go 5", "open") + ALONE[:2]:
            self.assertIs(type(desk.told(order)), str)
        desk.told("line 3")
        for order in ALONE:
            self.assertIs(type(desk.told(order)), str)


class OfDesks(unittest.TestCase):
    # Orders and answers in turn, at one new desk.
    def assert_answers(self, *pairs):
        desk = Desk()
        for order, wanted in pairs:
            self.assertEqual(desk.told(order), wanted, order)
        return desk

    # What is refused changes nothing: the desk tells the same behind it.
    def assert_refused_by(self, desk, wanted, order):
        before = state_of(desk)
        assert_refused(self, wanted, desk.told, order)
        self.assertEqual(state_of(desk), before)


class Lines(OfDesks):
    def test_a_line_of_a_width(self):
        for width in (0, 1, 3, 9, 10, 99, 100, 199, 200):
            self.assert_answers((f"line {width}", f"line {width}"), ("talk", f"0+{width} hush"))

    def test_a_line_without_a_width(self):
        self.assert_answers(("open", "open"), ("talk", "0+ hush"))

    def test_anew_with_nobody_on_it(self):
        for first in ("line 3", "line 5", "open"):
            for second in ("line 3", "line 2", "open"):
                desk = desk_with(first, [1, 6])
                self.assertEqual(desk.told(second), second)
                top = "0+" if second == "open" else f"0+{second[-1]}"
                self.assertEqual(desk.told("talk"), f"{top} hush")
                self.assertEqual(desk.told("come 1"), "1")
                self.assertEqual(desk.told("talk"), f"{top} 1")
                assert_refused(self, NoHand, desk.told, "go 6")

    def test_a_narrower_line_takes_fewer_numbers(self):
        desk = desk_with("line 3", [7])
        desk.told("line 2")
        self.assert_refused_by(desk, NoHands, "come 7")
        desk.told("open")
        self.assertEqual(desk.told("come 7"), "1")


class ComeAndGo(OfDesks):
    def test_the_counts(self):
        self.assert_answers(
            ("line 3", "line 3"),
            ("come 5", "1"),
            ("come 0", "2"),
            ("come 7", "3"),
            ("go 0", "2"),
            ("come 0", "3"),
            ("go 5", "2"),
            ("go 7", "1"),
            ("go 0", "0"),
            ("come 5", "1"),
            ("talk", "0+3 5"),
        )

    def test_on_a_line_without_a_width(self):
        self.assert_answers(
            ("open", "open"),
            ("come 5", "1"),
            (f"come {SIXTY_FIGURES}", "2"),
            ("come 0", "3"),
            ("go 5", "2"),
            (f"go {SIXTY_FIGURES}", "1"),
            ("talk", "0+ 0"),
        )

    def test_who_has_gone_is_not_heard(self):
        desk = desk_with("line 3", [1, 4, 6])
        desk.told("go 4")
        self.assertEqual(desk.told("talk"), "0+3 din; 0+2 1; 4+2 6")
        self.assertEqual(desk.told("turns"), "3")

    def test_the_order_of_coming_changes_nothing(self):
        wanted = state_of(desk_with("line 3", [1, 4, 6, 7]))
        for order in itertools.permutations([1, 4, 6, 7]):
            self.assertEqual(state_of(desk_with("line 3", order)), wanted)

    def test_sixty_figures(self):
        desk = desk_with("line 200", [10**59, SIXTY_FIGURES])
        self.assertEqual(desk.told("least"), f"{10**59} in 2")
        self.assert_refused_by(desk, NoOrder, f"come {10**60}")
        self.assert_refused_by(desk, NoOrder, f"go {10**60}")
        self.assertEqual(desk.told(f"go {SIXTY_FIGURES}"), "1")

    def test_a_hundred_and_twenty(self):
        for first, hands in (("line 7", range(120)), ("open", range(5000, 5120)), ("line 200", range(0, 1200, 10))):
            desk = Desk()
            desk.told(first)
            for place, hand in enumerate(hands):
                self.assertEqual(desk.told(f"come {hand}"), str(place + 1))
            self.assert_refused_by(desk, NoHands, "come 127")
            self.assert_refused_by(desk, NoHands, f"come {hands[0]}")
            self.assert_refused_by(desk, NoHand, "go 127")
            self.assertEqual(desk.told(f"go {hands[5]}"), "119")
            self.assertEqual(desk.told("come 127"), "120")
            self.assert_refused_by(desk, NoHands, "come 126")
            self.assertEqual(desk.told(first), first)
            self.assertEqual(desk.told("come 1"), "1")


class Asked(OfDesks):
    def test_nobody(self):
        self.assert_answers(
            ("line 3", "line 3"),
            ("talk", "0+3 hush"),
            ("short", "0+3 hush"),
            ("turns", "1"),
            ("least", "nobody in 1"),
            ("greatest", "nobody in 1"),
            ("paper", "0+3 hush"),
        )
        self.assert_answers(("open", "open"), ("talk", "0+ hush"), ("short", "0+ hush"))

    def test_one(self):
        self.assert_answers(
            ("line 3", "line 3"),
            ("come 5", "1"),
            ("talk", "0+3 5"),
            ("short", "0+3 5"),
            ("turns", "1"),
            ("least", "5 in 1"),
            ("greatest", "5 in 1"),
            ("paper", "0+3 5"),
        )
        self.assert_answers(("open", "open"), ("come 5", "1"), ("talk", "0+ 5"), ("short", "0+ 5"))

    def test_the_hand_0_is_somebody(self):
        self.assert_answers(
            ("line 0", "line 0"),
            ("least", "nobody in 1"),
            ("come 0", "1"),
            ("talk", "0+0 0"),
            ("least", "0 in 1"),
            ("greatest", "0 in 1"),
        )

    def test_several(self):
        self.assert_answers(
            ("line 3", "line 3"),
            ("come 7", "1"),
            ("come 5", "2"),
            ("talk", "0+3 din; 0+2 hush; 4+2 din; 4+1 5; 6+1 7"),
            ("short", "0+3 din; 0+2 hush; 4+1 5; 6+1 7"),
            ("turns", "5"),
            ("least", "5 in 3"),
            ("greatest", "7 in 3"),
            ("paper", "0+2 hush; 4+1 5; 6+1 7"),
            ("come 1", "3"),
            ("talk", "0+3 din; 0+2 1; 4+2 din; 4+1 5; 6+1 7"),
            ("short", "0+3 din; 0+2 1; 4+2 din; 4+1 5; 6+1 7"),
            ("turns", "5"),
            ("least", "1 in 2"),
            ("greatest", "7 in 3"),
            ("paper", "0+2 1; 4+1 5; 6+1 7"),
        )

    def test_several_on_a_line_without_a_width(self):
        self.assert_answers(
            ("open", "open"),
            ("come 9", "1"),
            ("come 5", "2"),
            ("talk", "0+ din; 0+0 hush; 1+ din; 1+0 hush; 2+ din; 2+1 hush; 4+ din; 4+2 5; 8+ 9"),
            ("short", "0+ din; 0+0 hush; 1+0 hush; 2+1 hush; 4+2 5; 8+ 9"),
        )

    def test_asking_changes_nothing(self):
        for first in ("line 3", "open"):
            desk = desk_with(first, [1, 5, 7])
            before = state_of(desk)
            for again in range(3):
                self.assertEqual(state_of(desk), before)
            self.assertEqual(desk.told("come 0"), "4")

    def test_every_set_of_a_small_line(self):
        for width in range(4):
            for hands in all_sets(width):
                top = top_of(width)
                desk = desk_with(f"line {width}", hands[::-1])
                self.assertEqual(desk.told("talk"), shown_book(talk(hands, top)))
                self.assertEqual(desk.told("short"), shown_book(short_talk(hands, top)))
                self.assertEqual(desk.told("turns"), str(turns(hands, width)))
                self.assertEqual(desk.told("paper"), shown_book(least_paper(hands, width)))
                for order, found in (("least", least(hands, width)), ("greatest", greatest(hands, width))):
                    who = "nobody" if found[0] is None else found[0]
                    self.assertEqual(desk.told(order), f"{who} in {len(found[1])}")

    def test_every_set_on_a_line_without_a_width(self):
        for hands in all_sets(3):
            desk = desk_with("open", hands)
            self.assertEqual(desk.told("talk"), shown_book(talk(hands, top_of())))
            self.assertEqual(desk.told("short"), shown_book(short_talk(hands, top_of())))

    def test_two_hundred_bits(self):
        desk = desk_with("line 200", [0, 1])
        self.assertEqual(desk.told("turns"), "401")
        self.assertEqual(desk.told("least"), "0 in 201")
        self.assertEqual(desk.told("greatest"), "1 in 201")
        self.assertEqual(desk.told("talk"), shown_book(talk([0, 1], top_of(200))))


class Check(OfDesks):
    def assert_check(self, desk, text, wanted):
        before = state_of(desk)
        self.assertEqual(desk.told("check " + text), wanted)
        self.assertEqual(state_of(desk), before)

    def test_a_right_book(self):
        desk = desk_with("line 3", [])
        self.assert_check(desk, "0+3 din; 0+2 1; 4+2 din; 4+1 4; 6+1 6", "right 1 4 6")
        self.assert_check(desk, "0+3 5", "right 5")
        self.assert_check(desk, "0+3 0", "right 0")
        desk = desk_with("open", [])
        self.assert_check(desk, "0+ din; 0+0 0; 1+ 9", "right 0 9")
        self.assert_check(desk, f"0+ {SIXTY_FIGURES}", f"right {SIXTY_FIGURES}")

    def test_a_right_book_without_words(self):
        self.assert_check(desk_with("line 3", []), "0+3 hush", "right")
        self.assert_check(desk_with("line 0", []), "0+0 hush", "right")
        self.assert_check(desk_with("open", []), "0+ hush", "right")

    def test_whoever_is_on_the_line(self):
        for hands in ([], [0], [1, 4, 6], [2, 3]):
            desk = desk_with("line 3", hands)
            self.assert_check(desk, "0+3 din; 0+2 1; 4+2 6", "right 1 6")
            self.assert_check(desk, "0+3 hush", "right")

    def test_a_book_that_is_not_right(self):
        desk = desk_with("line 3", [1, 4, 6])
        for text, place in (
            ("silence", 0),
            ("0+2 hush", 0),
            ("0+ hush", 0),
            ("0+3 8", 0),
            ("0+3 din", 1),
            ("0+3 hush; 0+3 hush", 1),
            ("0+3 din; 4+2 6", 1),
            ("0+3 din; 0+2 1", 2),
            ("0+3 din; 0+2 1; 4+2 hush", 2),
            ("0+3 din; 0+2 1; 4+2 din; 4+1 4", 4),
            ("0+3 din; 0+2 hush; 4+1 5; 6+1 7", 2),
            ("0+3 din; 0+2 1; 4+2 din; 4+1 4; 6+1 6; 6+1 6", 5),
        ):
            self.assert_check(desk, text, f"cut at {place}")
        desk = desk_with("open", [])
        self.assert_check(desk, "silence", "cut at 0")
        self.assert_check(desk, "0+3 hush", "cut at 0")
        self.assert_check(desk, "0+ din; 0+0 din", "cut at 1")

    def test_silence(self):
        for first in ("line 0", "line 3", "line 200", "open"):
            self.assert_check(desk_with(first, []), "silence", "cut at 0")

    def test_from_the_top_of_this_line_on(self):
        for first in ("line 2", "line 4", "open"):
            self.assert_check(desk_with(first, []), "0+3 hush", "cut at 0")

    def test_every_beginning_of_a_talk(self):
        for width in (0, 1, 2, 3, None):
            desk = desk_with("open" if width is None else f"line {width}", [])
            for hands in all_sets(2 if width is None else width)[::3]:
                book = talk(hands, top_of(width))
                for size in range(len(book)):
                    self.assertEqual(desk.told("check " + shown_book(book[:size])), f"cut at {size}")
                wanted = " ".join(["right"] + [str(hand) for hand in hands])
                self.assertEqual(desk.told("check " + shown_book(book)), wanted)

    def test_short_talks_and_papers(self):
        for hands in all_sets(3):
            desk = desk_with("line 3", hands)
            for order in ("short", "paper"):
                text = desk.told(order)
                book = read_book(text)
                place = cut(book, top_of(3))
                wanted = f"cut at {place}"
                if place is None:
                    wanted = " ".join(["right"] + [str(hand) for hand in words(book)])
                self.assert_check(desk, text, wanted)

    def test_a_text_that_is_no_book(self):
        for first in ("line 3", "open"):
            desk = desk_with(first, [1, 4])
            for text in NO_BOOKS:
                self.assert_refused_by(desk, NoText, "check " + text)


class NoSuchOrder(OfDesks):
    def desks(self):
        return (
            Desk(),
            desk_with("line 3", []),
            desk_with("line 3", [0, 5]),
            desk_with("open", []),
            desk_with("open", [0, 5]),
        )

    def test_texts(self):
        for desk in self.desks():
            for order in NO_ORDERS:
                with self.subTest(order=order):
                    self.assert_refused_by(desk, NoOrder, order)

    def test_what_is_no_text(self):
        for desk in self.desks():
            for order in NO_TEXTS:
                with self.subTest(order=order):
                    self.assert_refused_by(desk, NoOrder, order)

    def test_a_line_of_a_hundred_and_twenty_is_not_refilled_by_a_wrong_order(self):
        desk = desk_with("line 7", range(120))
        for order in ("come 0120", "come", "come 120 ", "line 201"):
            self.assert_refused_by(desk, NoOrder, order)

    def test_every_change_of_one_sign(self):
        orders = ("line 3", "open", "come 2", "go 1") + ALONE
        for order in orders:
            for place in range(len(order) + 1):
                for sign in ["", " ", "\t", "\n", "a", "A", "0", "-", "~"]:
                    for end in (place, place + 1):
                        changed = order[:place] + sign + order[end:]
                        desk = desk_with("line 3", [1, 5])
                        try:
                            desk.told(changed)
                        except NoOrder:
                            continue
                        except (NoHands, NoHand):
                            self.assertIn(changed.split(" ")[0], ("come", "go"))
                        self.assertIn(changed, orders + ("line 0", "line 30", "come 0", "come 20", "go 0", "go 10"))


class NoSuchLine(OfDesks):
    def test_where_no_line_was_told_yet(self):
        for order in ALONE + ("come 5", "come 0", f"come {SIXTY_FIGURES}", "go 5", "go 0"):
            self.assert_refused_by(Desk(), NoLine, order)
        for text in ("silence", "0+3 hush", "0+ hush") + NO_BOOKS:
            self.assert_refused_by(Desk(), NoLine, "check " + text)

    def test_no_order_goes_ahead(self):
        for order in ("check", "come", "go 05", "talk ", "line 201", None, 5):
            self.assert_refused_by(Desk(), NoOrder, order)

    def test_a_refused_line_is_none(self):
        desk = Desk()
        for order in ("line 201", "line", "line 03", "open 3"):
            assert_refused(self, NoOrder, desk.told, order)
            assert_refused(self, NoLine, desk.told, "talk")
        self.assertEqual(desk.told("line 200"), "line 200")
        self.assertEqual(desk.told("talk"), "0+200 hush")

    def test_on_a_line_without_a_width(self):
        for hands in ([], [5], [1, 5, 6]):
            desk = desk_with("open", hands)
            for order in OF_A_WIDTH:
                self.assert_refused_by(desk, NoLine, order)
        desk = desk_with("line 3", [1, 5])
        desk.told("open")
        for order in OF_A_WIDTH:
            self.assert_refused_by(desk, NoLine, order)
        desk.told("line 3")
        self.assertEqual([desk.told(order) for order in OF_A_WIDTH], ["1", "nobody in 1", "nobody in 1", "0+3 hush"])


class NoSuchHands(OfDesks):
    def test_one_that_is_there_already(self):
        for first in ("line 3", "open"):
            desk = desk_with(first, [0, 5])
            for hand in (0, 5):
                self.assert_refused_by(desk, NoHands, f"come {hand}")
            self.assertEqual(desk.told("come 6"), "3")

    def test_one_beyond_the_top(self):
        for width in (0, 1, 3, 199):
            desk = desk_with(f"line {width}", [0])
            for hand in (2**width, 2**width + 1, SIXTY_FIGURES):
                self.assert_refused_by(desk, NoHands, f"come {hand}")
            if width > 0:
                self.assertEqual(desk.told(f"come {2**width - 1}"), "2")

    def test_one_that_goes_and_is_not_there(self):
        for first in ("line 3", "open"):
            desk = desk_with(first, [0, 5])
            for hand in (1, 4, 6, 8, SIXTY_FIGURES):
                self.assert_refused_by(desk, NoHand, f"go {hand}")
            desk.told("go 5")
            self.assert_refused_by(desk, NoHand, "go 5")
            self.assertEqual(desk.told("go 0"), "0")
            self.assert_refused_by(desk, NoHand, "go 0")

    def test_after_a_refusal_the_counts_go_on(self):
        desk = desk_with("line 3", [0, 5])
        for wanted, order in ((NoHands, "come 5"), (NoHands, "come 8"), (NoHand, "go 7"), (NoOrder, "come 07"),
                              (NoText, "check x"), (NoOrder, "line 201")):
            self.assert_refused_by(desk, wanted, order)
        self.assertEqual(desk.told("come 7"), "3")
        self.assertEqual(desk.told("go 0"), "2")


class SeveralDesks(OfDesks):
    def test_two_desks_do_not_touch_one_another(self):
        one, other = Desk(), Desk()
        self.assertEqual(one.told("line 3"), "line 3")
        assert_refused(self, NoLine, other.told, "talk")
        self.assertEqual(other.told("open"), "open")
        self.assertEqual(one.told("come 5"), "1")
        self.assertEqual(other.told("come 9"), "1")
        self.assertEqual(other.told("come 5"), "2")
        self.assertEqual(one.told("talk"), "0+3 5")
        self.assertEqual(one.told("go 5"), "0")
        self.assertEqual(other.told("go 9"), "1")
        self.assertEqual(other.told("talk"), "0+ 5")
        self.assertEqual(one.told("turns"), "1")
        assert_refused(self, NoLine, other.told, "turns")
        assert_refused(self, NoLine, Desk().told, "talk")


if __name__ == "__main__":
    unittest.main()
