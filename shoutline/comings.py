"""Hands that come amid talks: when the talks begin, and when each hand is heard."""

from shoutline.errors import NoTurn
from shoutline.line import on_line
from shoutline.spans import top_of
from shoutline.turns import turn_of, turns


def meetings(comings, width):
    refuse_wrong(comings, width)
    in_order = sorted(comings)
    told = []
    place = 0
    # From this turn on no earlier talk is under way.
    free = 0
    while place < len(in_order):
        begin = max(free, in_order[place][0])
        hands = sorted([number for turn, number in in_order[place:] if turn <= begin])
        length = turns(hands, width)
        told.append((begin, hands, length))
        free = begin + length
        place += len(hands)
    return told


# Talks go on one behind the other, and each hears its hands in the order of
# their numbers; so the list is sorted by the turns as it grows.
def hearings(comings, width):
    came = dict([(number, turn) for turn, number in comings])
    told = []
    for meeting in meetings(comings, width):
        hands = meeting[1]
        for number in hands:
            told.append((number, came[number], meeting[0] + turn_of(hands, width, number)))
    return told


def refuse_wrong(comings, width):
    on_line([number for turn, number in comings], top_of(width))
    if any([turn < 0 for turn, number in comings]):
        raise NoTurn("turns are counted from 0 on")
