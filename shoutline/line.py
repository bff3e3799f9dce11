"""The line: who may be on it, and what is heard at a call."""

from shoutline.errors import NoHands
from shoutline.whole import is_whole


def on_line(hands, top):
    for hand in hands:
        # No span holds a number below 0, so the top refuses those too.
        if not is_whole(hand) or not top.holds(hand):
            raise NoHands("a hand does not lie in the top")
    if len(set(hands)) != len(hands):
        raise NoHands("two hands are alike")


def heard(hands, span):
    shouting = [hand for hand in hands if span.holds(hand)]
    if len(shouting) == 0:
        return ("hush",)
    if len(shouting) == 1:
        return ("word", shouting[0])
    return ("din",)
