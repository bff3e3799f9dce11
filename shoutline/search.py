"""The search for the least and the greatest hand, in few calls."""

from shoutline.line import heard, on_line
from shoutline.spans import top_of


def least(hands, width):
    return seek(hands, width, 0)


def greatest(hands, width):
    return seek(hands, width, 1)


# The side is the place of the half that is called: 0 the lower, 1 the upper.
def seek(hands, width, side):
    span = top_of(width)
    on_line(hands, span)
    answer = heard(hands, span)
    book = [(span, answer)]
    if answer == ("hush",):
        return (None, book)
    while answer[0] != "word":
        # Here the span is a din, called or sure.
        halves = span.halves()
        near = halves[side]
        answer = heard(hands, near)
        book.append((near, answer))
        # Where nobody is near, all hands of the din are in the other half.
        span = halves[1 - side] if answer == ("hush",) else near
    return (answer[1], book)
