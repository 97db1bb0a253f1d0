"""The least part of a stand."""

from mustrows.searches import clusters, find_moves
from mustrows.stands import blanks_of, moved


# Whatever leads a stand into less than all of its rows leaves one of its blanks out: so each blank is tried once.
# One that can't be left out can't be left out of a lesser part either.
def least_part(rows):
    part = list(rows)
    moves = [(number, ("blank", number)) for number in blanks_of(rows)]
    for number in blanks_of(rows):
        if number in blanks_of(part):
            later = moves_without(part, number)
            if later is not None:
                part = moved(part, later)
                moves = followed(moves, later)
    return (part, followed(moves, way_back(moves, blanks_of(part))))


# Moves that lead the part into those of its rows that don't have the blank, or None.
# Only rows that hang together with the blank need to move.
def moves_without(part, number):
    numbers_of = dict([(row, blanks_of([row])) for row in part])
    near = [rows for rows in clusters(numbers_of) if any([number in numbers_of[row] for row in rows])]
    return find_moves(near[0], [row for row in part if number not in numbers_of[row]])


# The moves that do at once what the first ones and then the later ones do.
def followed(moves, later):
    cell_for = dict([(("blank", number), cell) for number, cell in later])
    return [(number, cell_for.get(cell, cell)) for number, cell in moves]


# The least part's own blanks, whose numbers these are, have but changed places among themselves.
def way_back(moves, numbers):
    return [(cell[1], ("blank", number)) for number, cell in moves if number in numbers]
