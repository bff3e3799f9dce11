"""What counts as a whole number, for all modules alike."""


# Python counts True and False among its ints; the line does not.
def is_whole(thing):
    return isinstance(thing, int) and not isinstance(thing, bool)
