"""Point 30: books as texts; points 2, 3 and 5 where they touch these."""

import inspect
import itertools
import unittest

from shoutline.books import is_right
from shoutline.errors import NoText
from shoutline.papers import least_paper
from shoutline.search import greatest, least
from shoutline.shorts import short_talk
from shoutline.spans import Half, Open, top_of
from shoutline.talks import talk, words
from shoutline.texts import read_book, shown_book
from tests.helper import (
    DIN,
    GREAT_HANDS,
    HUSH,
    SIXTY_FIGURES,
    SIXTY_ONE_FIGURES,
    all_sets,
    assert_refused,
    rows,
    word,
)

# Books, each with its text.
WRITTEN = (
    ([], "silence"),
    ([(Half(0, 0), HUSH)], "0+0 hush"),
    ([(Half(0, 3), HUSH)], "0+3 hush"),
    ([(Half(0, 3), DIN)], "0+3 din"),
    ([(Half(0, 3), word(5))], "0+3 5"),
    ([(Half(0, 3), word(0))], "0+3 0"),
    ([(Half(7, 0), word(7))], "7+0 7"),
    ([(Half(96, 5), HUSH)], "96+5 hush"),
    ([(Half(1024, 10), DIN)], "1024+10 din"),
    ([(Open(0), HUSH)], "0+ hush"),
    ([(Open(1), DIN)], "1+ din"),
    ([(Open(16), word(20))], "16+ 20"),
    ([(Half(0, 200), DIN)], "0+200 din"),
    ([(Open(2**199), word(2**199))], f"{2**199}+ {2**199}"),
    ([(Half(2**199, 199), word(SIXTY_FIGURES))], f"{2**199}+199 {SIXTY_FIGURES}"),
    ([(Half(SIXTY_FIGURES, 0), DIN)], "9" * 60 + "+0 din"),
    ([(Half(0, 1), DIN), (Half(0, 0), word(0)), (Half(1, 0), word(1))], "0+1 din; 0+0 0; 1+0 1"),
    ([(Open(0), DIN), (Half(0, 0), HUSH), (Open(1), DIN)], "0+ din; 0+0 hush; 1+ din"),
    # Any row may stand behind any other: whether the book is right is not asked.
    ([(Half(4, 1), word(0)), (Half(4, 1), word(0)), (Open(2), HUSH)], "4+1 0; 4+1 0; 2+ hush"),
)

# What is no number, written where one is due.
NO_NUMBERS = (
    "",
    "00",
    "01",
    "007",
    "-0",
    "-1",
    "+1",
    "1_0",
    "1.0",
    "1,0",
    "1e3",
    "0x1",
    "a",
    "5a",
    "a5",
    "five",
    "'5'",
    "1/2",
    "2:",
    "5\t",
    "\t5",
    "5\n",
    "\n5",
    "1" * 61,
    "9" * 61,
    "0" * 60,
    "1" * 5000,
)


class TheInterface(unittest.TestCase):
    def test_the_arguments(self):
        self.assertEqual(str(inspect.signature(shown_book)), "(book)")
        self.assertEqual(str(inspect.signature(read_book)), "(text)")

    def test_the_kinds_of_the_answers(self):
        for book, text in WRITTEN:
            self.assertIs(type(shown_book(book)), str)
            told = read_book(text)
            self.assertIs(type(told), list)
            for row, wanted in zip(told, book, strict=True):
                self.assertIs(type(row), tuple)
                self.assertEqual(len(row), 2)
                self.assertIs(type(row[0]), type(wanted[0]))
                self.assertIs(type(row[0].low), int)
                self.assertIs(type(row[1]), tuple)
                self.assertEqual([type(thing) for thing in row[1]], [type(thing) for thing in wanted[1]])


class Written(unittest.TestCase):
    def test_row_by_row(self):
        for book, text in WRITTEN:
            before = rows(book)
            self.assertEqual(shown_book(book), text)
            self.assertEqual(rows(book), before)

    def test_a_talk(self):
        text = "0+3 din; 0+2 1; 4+2 din; 4+1 4; 6+1 6"
        self.assertEqual(shown_book(talk([6, 1, 4], top_of(3))), text)
        text = "0+ din; 0+0 hush; 1+ din; 1+0 1; 2+ din; 2+1 hush; 4+ din; 4+2 5; 8+ 9"
        self.assertEqual(shown_book(talk([5, 9, 1], top_of())), text)

    def test_numbers_of_more_figures_are_written(self):
        self.assertEqual(shown_book([(Half(0, 3), word(SIXTY_ONE_FIGURES))]), "0+3 " + "9" * 61)
        self.assertEqual(shown_book([(Open(2**202), HUSH)]), f"{2**202}+ hush")
        self.assertEqual(shown_book([(Half(0, 201), DIN)]), "0+201 din")

    def test_each_row_by_itself(self):
        book = talk([1, 2, 7, 12], top_of(4))
        self.assertEqual(shown_book(book), "; ".join(shown_book([row]) for row in book))
        self.assertEqual(shown_book(book).count(";"), len(book) - 1)


class Read(unittest.TestCase):
    def assert_read_as_written(self, book):
        text = shown_book(book)
        told = read_book(text)
        self.assertEqual(len(told), len(book))
        for row, wanted in zip(told, book):
            self.assertTrue(row[0].alike(wanted[0]))
            self.assertTrue(wanted[0].alike(row[0]))
            self.assertEqual(row[1], wanted[1])
        self.assertEqual(shown_book(told), text)

    def test_row_by_row(self):
        for book, text in WRITTEN:
            self.assertEqual(rows(read_book(text)), rows(book))
            self.assert_read_as_written(book)

    def test_the_kinds_of_spans(self):
        told = read_book("0+ din; 0+0 hush; 1+ hush; 16+4 din; 16+ din")
        self.assertEqual([type(row[0]) for row in told], [Open, Half, Open, Half, Open])
        self.assertEqual([row[0].low for row in told], [0, 0, 1, 16, 16])
        self.assertEqual((told[1][0].bits, told[3][0].bits), (0, 4))

    def test_books_of_every_set_of_a_small_line(self):
        for width in range(4):
            for hands in all_sets(width):
                for top in (top_of(width), top_of(200), top_of()):
                    self.assert_read_as_written(talk(hands, top))
                    self.assert_read_as_written(short_talk(hands, top))
                self.assert_read_as_written(least_paper(hands, width))
                self.assert_read_as_written(least(hands, width)[1])
                self.assert_read_as_written(greatest(hands, width)[1])

    def test_a_book_that_is_read_is_right_as_the_one_written(self):
        for hands in ([], [3], [0, 7], [1, 4, 6]):
            for width in (3, 9, None):
                book = read_book(shown_book(talk(hands, top_of(width))))
                self.assertTrue(is_right(book, top_of(width)))
                self.assertEqual(words(book), hands)

    def test_sixty_figures(self):
        for number in (10**59, SIXTY_FIGURES, 10**60 - 7):
            self.assertEqual(rows(read_book(f"0+200 {number}")), [("0+200", word(number))])
            self.assertEqual(rows(read_book(f"{number}+0 din")), [(f"{number}+0", DIN)])
        self.assertEqual(rows(read_book(f"{2**199}+ din")), [(f"{2**199}+", DIN)])
        self.assertEqual(len(str(2**199)), 60)

    def test_sixty_one_figures(self):
        for number in (10**60, 10**60 + 1, 2**200, SIXTY_ONE_FIGURES):
            assert_refused(self, NoText, read_book, f"0+200 {number}")
            assert_refused(self, NoText, read_book, f"{number}+0 din")
            assert_refused(self, NoText, read_book, f"0+3 din; 0+2 {number}")
        assert_refused(self, NoText, read_book, f"{2**200}+ din")
        assert_refused(self, NoText, read_book, f"{2**200}+1 din")

    def test_two_hundred_bits(self):
        for bits in (0, 1, 9, 10, 99, 100, 199, 200):
            self.assertEqual(rows(read_book(f"0+{bits} hush")), [(f"0+{bits}", HUSH)])
        for bits in (201, 202, 210, 300, 1000, 2000, SIXTY_FIGURES, SIXTY_ONE_FIGURES):
            assert_refused(self, NoText, read_book, f"0+{bits} hush")

    def test_a_book_with_greater_numbers_is_written_but_not_read(self):
        for book in (
            [(Half(0, 3), word(SIXTY_ONE_FIGURES))],
            [(Half(0, 201), DIN)],
            [(Open(2**200), HUSH)],
            talk([2**200 - 1, 2**200 - 2], top_of(200)),
            talk([SIXTY_ONE_FIGURES], top_of()),
        ):
            assert_refused(self, NoText, read_book, shown_book(book))

    def test_on_great_lines(self):
        kept = 0
        for hands in GREAT_HANDS:
            book = talk(hands, top_of(200))
            if all(len(str(number)) <= 60 for span, answer in book for number in (span.low,) + answer[1:]):
                self.assert_read_as_written(book)
                kept += 1
        self.assertGreater(kept, 4)

    def test_long_texts(self):
        book = [(Half(0, 3), DIN)] * 60_000
        text = shown_book(book)
        self.assertEqual(text, "; ".join(["0+3 din"] * 60_000))
        self.assertEqual(rows(read_book(text)), [("0+3", DIN)] * 60_000)


class WritesNoBook(unittest.TestCase):
    # A wrong row is refused alone, ahead of others, amid them and behind them.
    def assert_no_row(self, row):
        right = "0+1 din"
        for text in (row, f"{row}; {right}", f"{right}; {row}", f"{right}; {row}; {right}"):
            with self.subTest(text=text):
                assert_refused(self, NoText, read_book, text)

    def test_no_signs(self):
        self.assert_no_row("")

    def test_semicolons(self):
        for text in (
            ";",
            "; ",
            "0+1 din;",
            "0+1 din; ",
            "0+1 din ;",
            "; 0+1 din",
            ";0+1 din",
            "0+1 din;0+0 0",
            "0+1 5;0+0 0",
            "0+1 din ; 0+0 0",
            "0+1 din;  0+0 0",
            "0+1 din;; 0+0 0",
            "0+1 din; ; 0+0 0",
            "0+1 din; 0+0 0;",
            "0+1 din; 0+0 0; ",
            "0+1 din;\t0+0 0",
            "0+1 din;\n0+0 0",
            "0+1 din, 0+0 0",
            "0+1 din\n0+0 0",
            "0+1 din 0+0 0",
        ):
            with self.subTest(text=text):
                assert_refused(self, NoText, read_book, text)

    def test_blanks(self):
        for row in (
            " ",
            "  ",
            "0+1  din",
            " 0+1 din",
            "0+1 din ",
            "  0+1 din",
            "0+1 din  ",
            "0 +1 din",
            "0+ 1 din",
            "0 + 1 din",
            "0+1",
            "0+1 ",
            " din",
            "din",
            "0+1din",
            "0+hush",
            "0+1 5 5",
            "0+1 hush hush",
        ):
            self.assert_no_row(row)

    def test_tabs_and_line_feeds(self):
        for sign in "\t\n":
            for row in ("0+1{}din", "0+1 {}din", "0+1{} din", "{}0+1 din", "0+1 din{}", "0+{}1 din", "0+1 d{}in", "{}"):
                self.assert_no_row(row.replace("{}", sign))

    def test_figures(self):
        for wrong in NO_NUMBERS:
            self.assert_no_row(f"0+3 {wrong}")
            self.assert_no_row(f"{wrong}+0 hush")
            self.assert_no_row(f"{wrong}+ hush")
            if wrong != "":
                self.assert_no_row(f"0+{wrong} hush")

    def test_the_plus_sign(self):
        for row in ("0 hush", "+ hush", "++ hush", "0++ hush", "0++1 hush", "+0+1 hush", "0+1+ hush", "0+1+1 hush",
                    "0-1 hush", "0+-1 hush", "0+1; hush", "8 3"):
            self.assert_no_row(row)

    def test_halves_that_are_none(self):
        for low in range(40):
            for bits in range(7):
                text = f"{low}+{bits} hush"
                if low % 2**bits == 0:
                    self.assertEqual(rows(read_book(text)), [(f"{low}+{bits}", HUSH)])
                else:
                    self.assert_no_row(text)
        for low, bits in ((2**199 + 1, 1), (2**199, 200), (2**198, 199), (SIXTY_FIGURES, 1), (1, 200)):
            self.assert_no_row(f"{low}+{bits} din")

    def test_open_spans_that_are_none(self):
        for low in range(70):
            text = f"{low}+ din"
            if low in (0, 1, 2, 4, 8, 16, 32, 64):
                self.assertEqual(rows(read_book(text)), [(f"{low}+", DIN)])
            else:
                self.assert_no_row(text)
        for low in (2**199 - 1, 2**199 + 1, SIXTY_FIGURES, 10**59):
            self.assert_no_row(f"{low}+ hush")

    def test_other_words(self):
        for heard in (
            "Hush",
            "HUSH",
            "Din",
            "DIN",
            "hus",
            "hushh",
            "hush.",
            "hush,",
            "di",
            "dins",
            "\"din\"",
            "('din',)",
            "word",
            "word 5",
            "none",
            "None",
            "True",
            "silence",
            "~",
            "!",
        ):
            self.assert_no_row(f"0+3 {heard}")

    def test_silence(self):
        self.assert_no_row("silence ")
        for text in ("Silence", "SILENCE", " silence", "silence;", "silence; ", "silence\n", "silence silence",
                     "silence; silence", "silence; 0+1 din", "0+1 din; silence", "0+1 din; silence; 0+0 0",
                     "0+3 silence", "silenc", "silences"):
            with self.subTest(text=text):
                assert_refused(self, NoText, read_book, text)

    def test_every_short_text_of_some_signs(self):
        right = []
        for size in range(7):
            for signs in itertools.product("0+5; ", repeat=size):
                text = "".join(signs)
                try:
                    told = read_book(text)
                except NoText:
                    continue
                self.assertEqual(shown_book(told), text)
                right.append(text)
        spans = ("0+", "0+0", "0+5", "5+0", "0+50", "0+55", "50+0", "55+0")
        numbers = ("0", "5", "50", "55", "500", "505", "550", "555")
        wanted = [f"{span} {number}" for span in spans for number in numbers if len(span) + len(number) < 6]
        self.assertEqual(sorted(right), sorted(wanted))

    # Any change of one sign makes a text that is refused or another book's.
    def test_every_change_of_one_sign(self):
        for text in ("silence", "0+3 din; 0+2 1; 4+2 hush", "0+ din; 16+ 20"):
            for place in range(len(text) + 1):
                for sign in [""] + [chr(code) for code in range(32, 127)] + ["\t", "\n"]:
                    for end in (place, place + 1):
                        changed = text[:place] + sign + text[end:]
                        try:
                            told = read_book(changed)
                        except NoText:
                            continue
                        self.assertEqual(shown_book(told), changed)


class TheAskersOwn(unittest.TestCase):
    def test_each_book_is_a_new_one(self):
        for text in ("silence", "0+3 5", "0+ din; 0+0 hush"):
            first, second = read_book(text), read_book(text)
            self.assertIsNot(first, second)
            first.append((Half(0, 0), HUSH))
            self.assertEqual(shown_book(second), text)
            self.assertEqual(shown_book(read_book(text)), text)

    def test_a_text_stays_whatever_is_done_to_its_book(self):
        book = talk([1, 4], top_of(3))
        text = shown_book(book)
        book.clear()
        self.assertEqual(text, "0+3 din; 0+2 1; 4+2 4")
        self.assertEqual(shown_book(book), "silence")

    def test_after_a_refusal_all_is_as_before(self):
        assert_refused(self, NoText, read_book, "0+3 din; 0+2 x")
        self.assertEqual(rows(read_book("0+3 din")), [("0+3", DIN)])


if __name__ == "__main__":
    unittest.main()
