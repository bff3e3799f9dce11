"""Turns told from the numbers of the hands alone, without a talk."""

from shoutline.errors import NoHand
from shoutline.line import on_line
from shoutline.spans import top_of


def common_bits(one, other, width):
    return width - (one ^ other).bit_length()


def dins(hands, width):
    on_line(hands, top_of(width))
    return dins_by_common(neighbours_common(sorted(hands), width))


def turns(hands, width):
    return 2 * dins(hands, width) + 1


# The dins ahead of the word are those with this hand or a lower one in them.
# Each call takes one off the calls that are due, and a din puts two there; as
# the word comes, there are due, beside its own call, the upper halves of the
# dins in whose lower half the hand is. So the turns ahead are twice the dins
# ahead, less those lower halves.
def turn_of(hands, width, number):
    on_line(hands, top_of(width))
    if number not in hands:
        raise NoHand("none of the hands has this number")
    in_order = sorted(hands)
    place = in_order.index(number)
    common = neighbours_common(in_order, width)
    around = common[max(place - 1, 0):place + 1]
    depth = max(around, default=-1) + 1
    return 2 * dins_by_common(common[:place + 1]) - lower_halves(number, width, depth)


def neighbours_common(in_order, width):
    return [common_bits(one, other, width) for one, other in zip(in_order, in_order[1:])]


def dins_by_common(common):
    count = 0
    # Two neighbours with no bit in common have one din, the top, in common.
    before = -1
    for bits in common:
        count += max(bits - before, 0)
        before = bits
    return count


# Of the first calls that have the number in them, behind the top's, how many
# are of a lower half: a bit of 0 leads there.
def lower_halves(number, width, depth):
    return len([level for level in range(depth) if (number >> (width - 1 - level)) & 1 == 0])
