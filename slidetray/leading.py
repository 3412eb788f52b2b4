"""Which answer is due of two trays."""

from slidetray.answers import Led, Odd, Passed
from slidetray.compare import crossed_pairs, is_wide, pieces_of, steps_apart
from slidetray.errors import Unlike
from slidetray.solving import slides_between, straight
from slidetray.trays import check_tray, empty_place


def told(one, other):
    """Slides that lead from the one tray to the other, or what bars them."""
    check_tray(one)
    check_tray(other)
    if len(one) != len(other) or len(one[0]) != len(other[0]):
        raise Unlike("the trays have other sides")
    if is_wide(one):
        return told_of_wide(one, other)
    return told_of_narrow(one, other)


def told_of_wide(one, other):
    """The answer of trays of two rows and two columns or more."""
    crossed = crossed_pairs(one, other)
    steps = steps_apart(one, other)
    if (crossed + steps) % 2 == 1:
        return Odd(crossed, steps)
    return Led(slides_between(one, other))


def told_of_narrow(one, other):
    """The answer of trays of one row or of one column."""
    for first, second in zip(pieces_of(one), pieces_of(other)):
        # All before these stand alike, so each has the other one behind it.
        if first != second:
            return Passed(first, second)
    return Led(straight(empty_place(one), empty_place(other)))
