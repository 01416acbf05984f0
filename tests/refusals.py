"""What the tests of several files ask of a refusal."""

from boxproof.errors import BoxError, NoBox, NoLines, NoName, NoStatement, NotShut, NoWorld

SIX = (NoStatement, NoName, NoWorld, NoBox, NoLines, NotShut)


def refused_with(test, kind, ask):
    """The call is refused with this kind, which is taken by those above it and by none of the other five."""
    for taken_as in (kind, BoxError, ValueError):
        with test.assertRaises(taken_as):
            ask()
    try:
        ask()
    except BoxError as refusal:
        test.assertEqual([one for one in SIX if isinstance(refusal, one)], [kind])
