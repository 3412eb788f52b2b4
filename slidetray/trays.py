"""Trays, and the slides that are done on them, undone and thinned."""

from slidetray.errors import BadSlides, BadTray

MOST = 6

LETTERS = "udlr"

# How many rows down and columns to the right the empty place goes.
STEPS = {"u": (-1, 0), "d": (1, 0), "l": (0, -1), "r": (0, 1)}

BACK = {"u": "d", "d": "u", "l": "r", "r": "l"}


def moved(tray, slides):
    """The tray behind the slides."""
    check_tray(tray)
    check_slides(slides)
    rows = [list(row) for row in tray]
    row, column = empty_place(rows)
    for letter in slides:
        place = place_beside(rows, row, column, letter)
        if place is None:
            raise BadSlides("a slide leads off the tray")
        to_row, to_column = place
        rows[row][column] = rows[to_row][to_column]
        rows[to_row][to_column] = 0
        row, column = to_row, to_column
    return rows


def ways(tray):
    """The letters of all slides that can be done, in the turn of udlr."""
    check_tray(tray)
    row, column = empty_place(tray)
    return "".join([
        letter for letter in LETTERS
        if place_beside(tray, row, column, letter) is not None
    ])


def undone(slides):
    """The slides that take these back."""
    check_slides(slides)
    return "".join([BACK[letter] for letter in slides[::-1]])


def thinned(slides):
    """The slides without those that the next one takes back."""
    check_slides(slides)
    left = []
    for letter in slides:
        # A pair that goes makes new neighbours, so what is left is asked,
        # not the letter that stood before this one in the text.
        if left and left[-1] == BACK[letter]:
            left.pop()
        else:
            left.append(letter)
    return "".join(left)


def check_tray(tray):
    """Raise BadTray where this is no tray."""
    if not isinstance(tray, list) or not 1 <= len(tray) <= MOST:
        raise BadTray("a tray is a list of 1 to 6 rows")
    for row in tray:
        if not isinstance(row, list) or not 1 <= len(row) <= MOST:
            raise BadTray("a row is a list of 1 to 6 numbers")
        if len(row) != len(tray[0]):
            raise BadTray("the rows are of unlike lengths")
    numbers = [number for row in tray for number in row]
    for number in numbers:
        # True and False are integers to isinstance, but no numbers here.
        if not isinstance(number, int) or isinstance(number, bool):
            raise BadTray("what stands in a row is no whole number")
    if sorted(numbers) != list(range(len(numbers))):
        raise BadTray("the numbers are not all from 0 on, each once")


def check_slides(slides):
    """Raise BadSlides where this is no text of the four letters."""
    if not isinstance(slides, str):
        raise BadSlides("slides are a text")
    for letter in slides:
        if letter not in STEPS:
            raise BadSlides("a slide is one of the letters u, d, l and r")


def empty_place(tray):
    """The row and the column of the empty place."""
    row = [0 in numbers for numbers in tray].index(True)
    return row, tray[row].index(0)


def place_beside(tray, row, column, letter):
    """The row and the column a slide leads to, None off the tray."""
    down, right = STEPS[letter]
    row = row + down
    column = column + right
    if 0 <= row < len(tray) and 0 <= column < len(tray[0]):
        return row, column
    return None
