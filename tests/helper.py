"""What the tests share: asking for what must be refused, books as plain rows, desks with hands."""

from shoutline import errors
from shoutline.desk import Desk

SIXTY_FIGURES = 10**60 - 1
SIXTY_ONE_FIGURES = 10**61 - 1

HUSH = ("hush",)
DIN = ("din",)

KINDS = (
    errors.NoSpan,
    errors.NoHands,
    errors.NoHand,
    errors.NoTurn,
    errors.NoHall,
    errors.NoText,
    errors.NoOrder,
    errors.NoLine,
)

# Hands, each with a width whose line they are not on.
NOT_ON_LINE = (
    ([1], 0),
    ([0, 0], 0),
    ([-1], 0),
    ([8], 3),
    ([0, 9, 1], 3),
    ([3, 3], 3),
    ([5, 1, 2, 5], 3),
    ([3, -8, 1], 3),
    ([-1], 3),
    ([1, 2, SIXTY_ONE_FIGURES], 3),
    ([2**200], 200),
    ([2**200 - 1, 7, 2**200 - 1], 200),
    ([1, 2, -SIXTY_ONE_FIGURES], 200),
)

# Hands that are not on the line without a width either.
NOT_ON_OPEN_LINE = (
    [-1],
    [0, 0],
    [4, -1, 5],
    [SIXTY_ONE_FIGURES, 1, SIXTY_ONE_FIGURES],
    [1, -SIXTY_ONE_FIGURES],
)

# Hands on the line of two hundred bits.
GREAT_HANDS = (
    [],
    [0],
    [2**200 - 1],
    [0, 1],
    [2**200 - 1, 2**200 - 2],
    [0, 2**200 - 1],
    [2**199, 2**199 - 1],
    [2**199, 2**199 - 1, 0],
    [2**bits for bits in range(120)],
    [2**200 - 2**bits for bits in range(120)],
    [7**number % 2**200 for number in range(60, 180)],
    [2**190 * number + 5 for number in range(120)],
)


def word(number):
    return ("word", number)


def assert_refused(case, wanted, asked, *arguments):
    with case.assertRaises(errors.LineError) as caught:
        asked(*arguments)
    error = caught.exception
    case.assertIsInstance(error, ValueError)
    case.assertEqual([kind for kind in KINDS if isinstance(error, kind)], [wanted])


# Refused with NoHands, and the list of hands stays as it was.
def assert_no_hands(case, asked, hands, *arguments):
    before = list(hands)
    assert_refused(case, errors.NoHands, asked, hands, *arguments)
    case.assertEqual(hands, before)


# Spans are compared by their texts, which no two unlike spans share.
def rows(book):
    return [(span.shown(), answer) for span, answer in book]


# A new desk that was told a line and its hands.
def desk_with(first, hands):
    desk = Desk()
    desk.told(first)
    for hand in hands:
        desk.told(f"come {hand}")
    return desk


def all_sets(width):
    numbers = range(2**width)
    return [[number for number in numbers if chosen >> number & 1] for chosen in range(2 ** 2**width)]
