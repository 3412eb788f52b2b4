"""The answers: slides that lead from one tray to another, or what bars them."""

from slidetray.compare import crossed_pairs, is_wide, pieces_of, steps_apart
from slidetray.errors import BadSlides
from slidetray.trays import moved


class Answer:
    """What is told of two trays of the same sides."""


class Led(Answer):
    """Slides lead from the one tray to the other."""

    def __init__(self, slides):
        self.slides = slides

    def shows(self, one, other):
        """Whether the slides lead from the one to the other."""
        try:
            reached = moved(one, self.slides)
        except BadSlides:
            return False
        return reached == other


class Odd(Answer):
    """Crossed pairs and steps are odd together, which no slide changes."""

    def __init__(self, crossed, steps):
        self.crossed = crossed
        self.steps = steps

    def shows(self, one, other):
        """Whether pairs and steps are as told, and odd together."""
        return (
            # Odd or even, what bars the way on one row is another thing.
            is_wide(one)
            and (self.crossed + self.steps) % 2 == 1
            and self.crossed == crossed_pairs(one, other)
            and self.steps == steps_apart(one, other)
        )


class Passed(Answer):
    """Two pieces would have to pass each other on one row or column."""

    def __init__(self, one, other):
        self.one = one
        self.other = other

    def shows(self, one, other):
        """Whether the two pieces stand the other way round."""
        if is_wide(one):
            return False
        pieces = pieces_of(one)
        if self.one not in pieces or self.other not in pieces:
            return False
        return self.is_first(one) != self.is_first(other)

    def is_first(self, tray):
        """Whether the one piece stands before the other."""
        pieces = pieces_of(tray)
        return pieces.index(self.one) < pieces.index(self.other)
