"""Short talks: a din that is sure is not called."""

from shoutline.books import cut_by, follow
from shoutline.spans import top_of
from shoutline.talks import talk


def short_talk(hands, top):
    book = talk(hands, top)
    return [row for place, row in enumerate(book) if not is_sure(book, place)]


def saving(hands, width):
    book = talk(hands, top_of(width))
    return len([place for place in range(len(book)) if is_sure(book, place)])


# In a talk the row behind a din is its lower half; where that is a hush, the
# next row is the upper half, which all hands of the din must be in.
def is_sure(book, place):
    return place >= 2 and book[place - 2][1] == ("din",) and book[place - 1][1] == ("hush",)


def short_is_right(book, top):
    return cut_by(book, top, follow_short) is None


def follow_short(row, call, due):
    follow(row, call, due)
    # A call that owes two hands is sure to be a din. One step is enough: no
    # lower half owes two, as its upper half has room for one at least.
    if len(due) > 0 and due[-1][1] == 2:
        sure = due.pop()
        follow((sure[0], ("din",)), sure, due)
