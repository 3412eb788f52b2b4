"""Trays, right and wrong, that several tests are made of."""

import itertools
import random

LETTERS = "udlr"

ONE = [[0]]
SQUARE = [[1, 2, 3], [4, 0, 5], [6, 7, 8]]
ROW = [[1, 2, 0, 3, 4, 5]]
COLUMN = [[1], [2], [0], [3], [4], [5]]

NO_LISTS = [
    None, True, False, 0, 3, -1, 1.5, 2j, "", "01", "0\n1", b"", b"01",
    (), (0, 1), ([0, 1],), {}, {0: [0, 1]}, set(), {0}, frozenset(),
    range(2), iter([[0]]), object(), list, len, bytearray(b"01"),
]
NO_NUMBERS = [
    None, True, False, 0.0, 1.0, 1j, float("nan"), "0", "1", "", b"1",
    [], [1], (), (1,), {}, {1: 1}, set(), {1}, range(1), object(), int, len,
]


def numbered(rows, columns, empty=0):
    """A tray of these sides, its pieces in turn, with 0 at one place."""
    pieces = list(range(1, rows * columns))
    pieces.insert(empty, 0)
    return [pieces[row * columns:(row + 1) * columns] for row in range(rows)]


def texts(most):
    """All slides of up to so many letters."""
    for many in range(most + 1):
        for letters in itertools.product(LETTERS, repeat=many):
            yield "".join(letters)


def sides():
    return itertools.product(range(1, 7), range(1, 7))


def plainly_moved(tray, slides):
    """Like moved, in one flat list; None where a slide leads off."""
    columns = len(tray[0])
    flat = [number for row in tray for number in row]
    for letter in slides:
        at = flat.index(0)
        barred = {
            "u": at < columns,
            "d": at >= len(flat) - columns,
            "l": at % columns == 0,
            "r": at % columns == columns - 1,
        }[letter]
        if barred:
            return None
        to = at + {"u": -columns, "d": columns, "l": -1, "r": 1}[letter]
        flat[at], flat[to] = flat[to], 0
    return [flat[at:at + columns] for at in range(0, len(flat), columns)]


def rowed(flat, columns):
    """A tray of these numbers, read row by row."""
    flat = list(flat)
    return [flat[at:at + columns] for at in range(0, len(flat), columns)]


def all_trays(rows, columns):
    """All trays of these sides."""
    for flat in itertools.permutations(range(rows * columns)):
        yield rowed(flat, columns)


def shuffled(rows, columns, seed):
    """Some tray of these sides, the same one for the same seed."""
    flat = list(range(rows * columns))
    random.Random(seed).shuffle(flat)
    return rowed(flat, columns)


def some_slides(tray, many, seed):
    """So many slides that can be done, the same ones for the same seed."""
    chance = random.Random(seed)
    slides = ""
    for _ in range(many):
        after = [
            (letter, plainly_moved(tray, letter)) for letter in LETTERS
            if plainly_moved(tray, letter) is not None
        ]
        if not after:
            return slides
        letter, tray = chance.choice(after)
        slides += letter
    return slides


def exchanged(tray, one, other):
    """The tray with two of its numbers exchanged."""
    instead = {one: other, other: one}
    return [[instead.get(number, number) for number in row] for row in tray]


def is_broad(tray):
    """Two rows and two columns or more."""
    return min(len(tray), len(tray[0])) > 1


def place_of(tray, number):
    """The row and the column of a number."""
    (found,) = [
        (at, row.index(number)) for at, row in enumerate(tray)
        if number in row
    ]
    return found


def stand_crossed(one, other, first, second):
    """Whether two numbers stand the other way round, read row by row."""
    in_one = place_of(one, first) < place_of(one, second)
    in_other = place_of(other, first) < place_of(other, second)
    return first != second and in_one != in_other


def plainly_crossed(one, other):
    """How many pairs of numbers stand the other way round."""
    many = len(one) * len(one[0])
    return sum(
        stand_crossed(one, other, first, second)
        for first in range(many) for second in range(first)
    )


def plainly_apart(one, other):
    """How many steps the empty places are apart."""
    return sum(
        max(at, to) - min(at, to)
        for at, to in zip(place_of(one, 0), place_of(other, 0))
    )


def plainly_passed(one, other, first, second):
    """Whether a Passed of these two numbers is as the document tells."""
    pieces = range(1, len(one) * len(one[0]))
    return (
        not is_broad(one) and first in pieces and second in pieces
        and stand_crossed(one, other, first, second)
    )


def wrong_trays():
    """What is no tray, each with a few words that say why."""
    for thing in NO_LISTS:
        yield "no list: %r" % (thing,), thing
        yield "a row that is none: %r" % (thing,), [thing]
        yield "a last row that is none: %r" % (thing,), [[0, 1], thing]
        yield "a first row that is none: %r" % (thing,), [thing, [0, 1]]
    for thing in NO_NUMBERS:
        yield "no number: %r" % (thing,), [[thing]]
        yield "no number behind 0: %r" % (thing,), [[0, thing]]
        yield "no number before 0: %r" % (thing,), [[thing, 0]]
        yield "no number below: %r" % (thing,), [[1, 0], [2, thing]]
    yield "True for 1", [[0, True]]
    yield "False for 0", [[False, 1]]
    yield "True for 1 below", [[0, 2], [True, 3]]
    yield "no rows", []
    yield "a row of none", [[]]
    yield "rows of none", [[], []]
    yield "seven rows", numbered(7, 1)
    yield "seven rows of two", numbered(7, 2)
    yield "seven columns", numbered(1, 7)
    yield "two rows of seven", numbered(2, 7)
    yield "seven by seven", numbered(7, 7)
    yield "a shorter row", [[0, 1], [2]]
    yield "a longer row", [[0], [1, 2]]
    yield "a row of none among others", [[0, 1], []]
    yield "a shorter row in the middle", [[0, 1, 2], [3, 4], [5, 6, 7]]
    yield "a longer last row", [[0, 1], [2, 3], [4, 5, 6]]
    yield "unlike, as many as two rows of two", [[0, 1, 2], [3]]
    yield "a number twice", [[0, 1], [1, 2]]
    yield "0 twice", [[0, 0]]
    yield "0 twice below", [[0, 1], [2, 0]]
    yield "no 0", [[1, 2], [3, 4]]
    yield "no 0, one place", [[1]]
    yield "a number missing", [[0, 1], [2, 4]]
    yield "1 missing", [[0, 2]]
    yield "below 0", [[0, -1]]
    yield "below 0 for 0", [[-1, 1], [2, 3]]
    yield "a great number", [[0, 10 ** 30]]
    yield "a tray of trays", [[[0]]]
    own = []
    own.append(own)
    yield "a list that holds itself", own
