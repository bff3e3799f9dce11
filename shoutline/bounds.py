"""The most and the fewest turns, and hands that take so many."""

from shoutline.errors import NoHands


def most_turns(width, count):
    refuse_too_many(width, count)
    if count < 2:
        return 1
    # Two hands at least are in a din, so on a level no more dins have room.
    pairs = count // 2
    return 1 + 2 * sum([min(1 << level, pairs) for level in range(width)])


def fewest_turns(width, count):
    refuse_too_many(width, count)
    if count < 1:
        return 1
    return 2 * count - 1


# Two hands that differ in the last bit alone are a din on every level; pairs
# far apart are so in as many different dins as can be.
def slow_hands(width, count):
    refuse_too_many(width, count)
    hands = []
    for pair in spread(width - 1, count // 2):
        hands.append(2 * pair)
        hands.append(2 * pair + 1)
    if count % 2 == 1:
        # One hand more takes no din away, wherever it is.
        hands.append(lowest_free(hands))
    return sorted(hands)


# Hands far apart leave no half of a din without a hand, so there is no hush.
def quick_hands(width, count):
    refuse_too_many(width, count)
    return spread(width, count)


def refuse_too_many(width, count):
    if count > 1 << width:
        raise NoHands("the line has fewer numbers")


# On each level they lie in all of its halves, or, where these are more than
# the numbers, each in a half of its own.
def spread(width, count):
    return [(place << width) // count for place in range(count)]


def lowest_free(hands):
    number = 0
    while number in hands:
        number += 1
    return number
