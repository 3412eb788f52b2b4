"""Slides from one tray to another, found where nothing bars them."""

from slidetray.trays import LETTERS, empty_place, moved, place_beside, thinned, undone


def straight(start, end):
    """The slides that take the empty place straight to another place."""
    row, column = start
    to_row, to_column = end
    # Letters taken a negative number of times are none.
    return (
        "u" * (row - to_row) + "d" * (to_row - row)
        + "l" * (column - to_column) + "r" * (to_column - column)
    )


def slides_between(one, other):
    """Slides from a tray of two rows and columns or more to another one.

    The other one can be reached: crossed pairs and steps are not odd together.
    """
    corner = (len(one) - 1, len(one[0]) - 1)
    before = straight(empty_place(one), corner)
    after = straight(empty_place(other), corner)
    between = settling_slides(moved(one, before), moved(other, after))
    return thinned(before + between + undone(after))


def settling_slides(tray, goal):
    """Slides to a goal whose empty place is the last corner."""
    slides = ""
    settled = []
    for group in groups_of_places(len(goal), len(goal[0])):
        pieces = [goal[row][column] for row, column in group]
        found = group_slides(tray, pieces, group, settled)
        slides = slides + found
        tray = moved(tray, found)
        settled = settled + group
    return slides


def groups_of_places(rows, columns):
    """All places but the last corner, in groups that are settled together.

    Upper rows go first; of the two rows that are left, columns go from the
    left. The end of a row is settled as a pair, and so is such a column: with
    one of the two settled, the other could not always be given its piece.
    """
    groups = []
    for row in range(rows - 2):
        groups.extend([[(row, column)] for column in range(columns - 2)])
        groups.append([(row, columns - 2), (row, columns - 1)])
    upper = rows - 2
    lower = rows - 1
    groups.extend([[(upper, column), (lower, column)] for column in range(columns - 2)])
    groups.append([(upper, columns - 2), (upper, columns - 1), (lower, columns - 2)])
    return groups


def group_slides(tray, pieces, group, settled):
    """The fewest slides that bring the pieces to the places of the group.

    A standing is a tuple: the place of the empty place, then those of the
    pieces. Where the other pieces are does not matter, so it is left out.
    """
    beside = free_places_beside(tray, settled)
    places = places_of(tray)
    start = tuple([places[number] for number in [0] + pieces])
    goal = tuple(group)
    slides_to = {start: ""}
    queue = [start]
    at = 0
    while queue[at][1:] != goal:
        standing = queue[at]
        at += 1
        for letter, place in beside[standing[0]]:
            following = standing_behind(standing, place)
            if following not in slides_to:
                slides_to[following] = slides_to[standing] + letter
                queue.append(following)
    return slides_to[queue[at]]


def standing_behind(standing, place):
    """The standing when the empty place has gone to a place beside it."""
    empty = standing[0]
    return tuple([place] + [empty if at == place else at for at in standing[1:]])


def free_places_beside(tray, settled):
    """For each place the slides that lead to none of the settled ones."""
    beside = {}
    for row, column in places_of(tray).values():
        found = []
        for letter in LETTERS:
            place = place_beside(tray, row, column, letter)
            if place is not None and place not in settled:
                found.append((letter, place))
        beside[(row, column)] = found
    return beside


def places_of(tray):
    """For each number the row and the column where it stands."""
    return {
        number: (row, column)
        for row, numbers in enumerate(tray)
        for column, number in enumerate(numbers)
    }
