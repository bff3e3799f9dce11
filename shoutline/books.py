"""Books: whether one is the talk of some hands, and where it ceases to be."""

from shoutline.spans import Half

# How many hands there are at the least where this is heard, and of a hush and
# a word also at the most. More than two are never asked for: a din wants two.
SURE_HANDS = {"hush": 0, "word": 1, "din": 2}


def is_right(book, top):
    return cut(book, top) is None


def cut(book, top):
    return cut_by(book, top, follow)


# The step tells what is due behind a row, as not all books go on alike.
def cut_by(book, top, step):
    # Each call that is due is (span, the fewest hands that must be in it,
    # whether it is a lower half); the last one in the list is the next.
    due = [(top, 0, False)]
    for place, row in enumerate(book):
        if len(due) == 0:
            return place
        call = due.pop()
        if not can_answer(row, call):
            return place
        step(row, call, due)
    if len(due) > 0:
        return len(book)
    return None


def can_answer(row, call):
    span = call[0]
    if not row[0].alike(span):
        return False
    kind = row[1][0]
    if kind == "word" and not span.holds(row[1][1]):
        return False
    return call[1] <= SURE_HANDS[kind] <= room(span)


def follow(row, call, due):
    sure = SURE_HANDS[row[1][0]]
    if call[2]:
        # The upper half, the next one then, owes what the lower one left of
        # the two hands of their din.
        upper = due.pop()[0]
        due.append((upper, 2 - sure, False))
    if sure == 2:
        halves = call[0].halves()
        # What the upper half owes is known once the lower one is heard, which
        # in turn must not leave more to the upper one than has room there.
        due.append((halves[1], 0, False))
        due.append((halves[0], 2 - room(halves[1]), True))


# How many hands have room in a span, told up to two, as a din wants no more.
def room(span):
    if isinstance(span, Half) and span.bits == 0:
        return 1
    return 2
