"""Papers: hushes and words, in any order, that may show who is there."""

from shoutline.line import heard
from shoutline.spans import top_of
from shoutline.talks import talk, words


def is_of(paper, hands):
    in_order = sorted(hands)
    for row in paper:
        span = row[0]
        # The hands of a span stand side by side, and two of them tell a din;
        # so a long paper of many hands need not ask for all of them.
        first = count_below(in_order, span.lowest())
        if heard(in_order[first:first + 2], span) != row[1]:
            return False
    return True


# No two rows are at odds just where all of them are heard of the words.
def fits(paper, width):
    top = top_of(width)
    for row in paper:
        # A half that is no greater than the top lies in it as a whole, or not
        # at all.
        if row[0].bits > width or not top.holds(row[0].low):
            return False
    return is_of(paper, words_once(paper))


def shown_hands(paper, width):
    if not fits(paper, width) or gap(paper, width) is not None:
        return None
    return words_once(paper)


# The talk has them in the order of their spans, as lower halves go ahead.
def least_paper(hands, width):
    return [row for row in talk(hands, top_of(width)) if row[1] != ("din",)]


def gap(paper, width):
    # All numbers below this one lie in the spans seen so far.
    reach = 0
    for low, bits in sorted([(row[0].low, row[0].bits) for row in paper]):
        if low > reach:
            break
        reach = max(reach, low + (1 << bits))
    if top_of(width).holds(reach):
        return reach
    return None


def words_once(paper):
    return sorted(set(words(paper)))


def count_below(in_order, number):
    low = 0
    high = len(in_order)
    while low < high:
        middle = (low + high) // 2
        if in_order[middle] < number:
            low = middle + 1
        else:
            high = middle
    return low
