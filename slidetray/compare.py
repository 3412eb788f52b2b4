"""What two trays of the same sides are compared by."""

from itertools import combinations

from slidetray.trays import empty_place


def is_wide(tray):
    """Whether the tray has two rows and two columns or more."""
    return len(tray) >= 2 and len(tray[0]) >= 2


def numbers_of(tray):
    """All numbers of the tray, read row by row."""
    return [number for row in tray for number in row]


def pieces_of(tray):
    """The pieces of the tray, read row by row."""
    return [number for number in numbers_of(tray) if number != 0]


def crossed_pairs(one, other):
    """How many pairs of numbers stand the other way round, the 0 too."""
    places = {number: place for place, number in enumerate(numbers_of(other))}
    turn = [places[number] for number in numbers_of(one)]
    return len([1 for first, second in combinations(turn, 2) if first > second])


def steps_apart(one, other):
    """How many steps the empty places are apart."""
    one_row, one_column = empty_place(one)
    other_row, other_column = empty_place(other)
    return abs(one_row - other_row) + abs(one_column - other_column)
