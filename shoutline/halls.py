"""Halls: lines within lines, whose talks have ended before the outer one begins."""

from shoutline.errors import NoHall, NoHand
from shoutline.turns import turns

MOST_HALLS_DEEP = 8


# What a part tells does not change any more once it is made, so it is told
# from what was found then. A part that stands in several halls would else be
# walked once more for each way that leads to it.
class Part:
    def __init__(self, number, ended, depth, ways):
        self.number = number
        self.ended = ended
        self.depth = depth
        # The call of each name, in the order of the names.
        self.ways = ways

    def time(self):
        return self.ended

    def names(self):
        return list(self.ways)

    def call(self, name):
        if name not in self.ways:
            raise NoHand("nobody within has this name")
        return list(self.ways[name])


class Hand(Part):
    def __init__(self, number, name):
        Part.__init__(self, number, 0, 0, {name: []})


class Hall(Part):
    def __init__(self, number, width, parts):
        # Numbers that are not on the line are refused here, ahead of all else.
        length = turns([part.number for part in parts], width)
        depth = 1 + max([part.depth for part in parts], default=0)
        if depth > MOST_HALLS_DEEP:
            raise NoHall("too many halls lie within one another")
        ended = max([part.time() for part in parts], default=0) + length
        Part.__init__(self, number, ended, depth, ways_through(parts))


def ways_through(parts):
    ways = {}
    for part in sorted(parts, key=lambda one: one.number):
        for name in part.names():
            if name in ways:
                raise NoHall("a name is there twice")
            ways[name] = [part.number] + part.call(name)
    return ways
