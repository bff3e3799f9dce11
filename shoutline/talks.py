"""Talks: a span is called, and behind a din its halves, until nobody is left unheard."""

from shoutline.line import heard, on_line


def talk(hands, top):
    on_line(hands, top)
    book = []
    # Beside each span that is due go the hands of the span it comes of, for
    # only those can be in it. The calls that are due stand in a list, as a
    # great width would lead a call of talk within talk too deep.
    due = [(top, hands)]
    while due:
        call = due.pop()
        span = call[0]
        near = call[1]
        answer = heard(near, span)
        book.append((span, answer))
        if answer == ("din",):
            shouting = [hand for hand in near if span.holds(hand)]
            halves = span.halves()
            # The last one in the list is called first: the lower half.
            due.append((halves[1], shouting))
            due.append((halves[0], shouting))
    return book


def words(book):
    return [row[1][1] for row in book if row[1][0] == "word"]
