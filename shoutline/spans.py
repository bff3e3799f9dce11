"""Spans of numbers: halves, which end, and open spans, which do not."""

from shoutline.errors import NoSpan
from shoutline.whole import is_whole


def is_half(low, bits):
    if not is_whole(low) or not is_whole(bits):
        return False
    if low < 0 or bits < 0:
        return False
    # To and fro, so that no power is built that is greater than low itself.
    return (low >> bits) << bits == low


def is_low_of_open(low):
    if not is_whole(low) or low < 0:
        return False
    # Only 0 and the powers of 2 share no bit with the number ahead of them.
    return low & (low - 1) == 0


# What a span can be asked, whatever its kind; each kind sets its own low
# number, once it has seen that it may begin there.
class Span:
    def holds(self, number):
        raise NotImplementedError("a span is a half or an open one")

    def lowest(self):
        return self.low

    def halves(self):
        raise NotImplementedError("a span is a half or an open one")

    def shown(self):
        raise NotImplementedError("a span is a half or an open one")

    def alike(self, other):
        raise NotImplementedError("a span is a half or an open one")


class Half(Span):
    def __init__(self, low, bits):
        if not is_half(low, bits):
            raise NoSpan("a half begins with a multiple of as many numbers as it has")
        self.low = low
        self.bits = bits

    # The numbers of a half differ in its own bits alone; a number below 0
    # stays below 0 when it is shifted, so it never meets a low number.
    def holds(self, number):
        return number >> self.bits == self.low >> self.bits

    def halves(self):
        if self.bits == 0:
            raise NoSpan("a half of no bits has no halves")
        bits = self.bits - 1
        return (Half(self.low, bits), Half(self.low + (1 << bits), bits))

    def shown(self):
        return str(self.low) + "+" + str(self.bits)

    def alike(self, other):
        return isinstance(other, Half) and self.low == other.low and self.bits == other.bits


class Open(Span):
    def __init__(self, low):
        if not is_low_of_open(low):
            raise NoSpan("an open span begins with 0 or a power of 2")
        self.low = low

    def holds(self, number):
        return number >= self.low

    def halves(self):
        # Twice 0 is 0 again: from there the open span must go on with 1.
        if self.low == 0:
            return (Half(0, 0), Open(1))
        return (Half(self.low, self.low.bit_length() - 1), Open(2 * self.low))

    def shown(self):
        return str(self.low) + "+"

    def alike(self, other):
        return isinstance(other, Open) and self.low == other.low


def top_of(width=None):
    if width is None:
        return Open(0)
    return Half(0, width)
