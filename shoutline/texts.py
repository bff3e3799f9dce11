"""Books as texts: written, and read again."""

from shoutline.errors import NoSpan, NoText
from shoutline.spans import Half, Open

FIGURES = "0123456789"
MOST_FIGURES = 60
MOST_BITS = 200


def shown_book(book):
    if len(book) == 0:
        return "silence"
    return "; ".join([shown_row(row) for row in book])


def shown_row(row):
    answer = row[1]
    shown_answer = str(answer[1]) if answer[0] == "word" else answer[0]
    return row[0].shown() + " " + shown_answer


def read_book(text):
    if text == "silence":
        return []
    return [read_row(row) for row in text.split("; ")]


def read_row(text):
    parts = text.split(" ")
    if len(parts) != 2:
        raise NoText("a row is a span, one blank and what is heard")
    return (read_span(parts[0]), read_answer(parts[1]))


def read_span(text):
    parts = text.split("+")
    if len(parts) != 2:
        raise NoText("a span has one plus sign")
    low = read_number(parts[0])
    try:
        return Open(low) if parts[1] == "" else Half(low, read_bits(parts[1]))
    except NoSpan as error:
        raise NoText("no span begins there") from error


def read_answer(text):
    if text == "hush" or text == "din":
        return (text,)
    return ("word", read_number(text))


def read_bits(text):
    bits = read_number(text)
    if bits > MOST_BITS:
        raise NoText("there are too many bits")
    return bits


# Python's int also takes signs, blanks, underscores and a 0 ahead, so what it
# is handed is looked at first.
def read_number(text):
    if text == "" or len(text) > MOST_FIGURES:
        raise NoText("a number has a figure at least, and not too many")
    if not all([sign in FIGURES for sign in text]):
        raise NoText("a number is written in figures alone")
    if text.startswith("0") and text != "0":
        raise NoText("a number has no 0 ahead")
    return int(text)
