"""The desk: it keeps the hands of one line, and answers orders by texts."""

from shoutline.books import cut
from shoutline.errors import NoHand, NoHands, NoLine, NoOrder, NoText
from shoutline.line import on_line
from shoutline.papers import least_paper
from shoutline.search import greatest, least
from shoutline.shorts import short_talk
from shoutline.spans import Half, top_of
from shoutline.talks import talk, words
from shoutline.texts import read_bits, read_book, read_number, shown_book
from shoutline.turns import turns

MOST_HANDS = 120

ALONE = ("open", "talk", "short", "turns", "least", "greatest", "paper")
OF_A_WIDTH = ("turns", "least", "greatest", "paper")


class Desk:
    def __init__(self):
        # There is no top until a line is told.
        self.top = None
        self.hands = []

    def told(self, order):
        asked = read_order(order)
        word = asked[0]
        if word == "line" or word == "open":
            self.begin(asked[1])
            return order
        self.refuse_without_line(word)
        if word == "come":
            return self.come(asked[1])
        if word == "go":
            return self.go(asked[1])
        if word == "check":
            return check(asked[1], self.top)
        return answer(word, self.hands, self.top)

    def begin(self, width):
        self.top = top_of(width)
        self.hands = []

    def refuse_without_line(self, word):
        if self.top is None:
            raise NoLine("no line was told yet")
        if word in OF_A_WIDTH and not isinstance(self.top, Half):
            raise NoLine("the line has no width")

    def come(self, number):
        if len(self.hands) >= MOST_HANDS:
            raise NoHands("the line is full")
        hands = self.hands + [number]
        on_line(hands, self.top)
        self.hands = hands
        return str(len(self.hands))

    def go(self, number):
        if number not in self.hands:
            raise NoHand("no hand on the line has this number")
        self.hands.remove(number)
        return str(len(self.hands))


# An order as a tuple: its word, and what stands behind it: None, a number or,
# behind check, a text, which is looked at only where there is a line.
def read_order(order):
    if not isinstance(order, str):
        raise NoOrder("an order is a text")
    if order in ALONE:
        return (order, None)
    parts = order.partition(" ")
    word = parts[0]
    behind = parts[2]
    if word == "check" and parts[1] == " ":
        return (word, behind)
    try:
        if word == "line":
            return (word, read_bits(behind))
        if word == "come" or word == "go":
            return (word, read_number(behind))
    except NoText as error:
        raise NoOrder("behind this word stands one number") from error
    raise NoOrder("there is no such order")


def check(text, top):
    book = read_book(text)
    place = cut(book, top)
    if place is not None:
        return f"cut at {place}"
    return " ".join(["right"] + [str(number) for number in words(book)])


def answer(word, hands, top):
    if word == "talk":
        return shown_book(talk(hands, top))
    if word == "short":
        return shown_book(short_talk(hands, top))
    if word == "turns":
        return str(turns(hands, top.bits))
    if word == "paper":
        return shown_book(least_paper(hands, top.bits))
    if word == "least":
        return shown_search(least(hands, top.bits))
    return shown_search(greatest(hands, top.bits))


def shown_search(found):
    number = "nobody" if found[0] is None else found[0]
    calls = len(found[1])
    return f"{number} in {calls}"
