"""What the tests share: asking for something that must be refused."""

from shoutline import errors

KINDS = (
    errors.NoSpan,
    errors.NoHands,
    errors.NoHand,
    errors.NoTurn,
    errors.NoHall,
    errors.NoText,
    errors.NoOrder,
    errors.NoLine,
)


def assert_refused(case, wanted, asked, *arguments):
    with case.assertRaises(errors.LineError) as caught:
        asked(*arguments)
    error = caught.exception
    case.assertIsInstance(error, ValueError)
    case.assertEqual([kind for kind in KINDS if isinstance(error, kind)], [wanted])
