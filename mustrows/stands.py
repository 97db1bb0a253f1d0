"""Cells, rows, stands: their order, their blanks, and stands moved by moves."""


def stand_of(rows):
    return sorted(set(rows))


def blanks_of(rows):
    numbers = []
    for table, cells in rows:
        numbers.extend([cell[1] for cell in cells if cell[0] == "blank"])
    return sorted(set(numbers))


def moved(rows, moves):
    cell_for = dict([(("blank", number), cell) for number, cell in moves])
    return stand_of([exchanged(row, cell_for) for row in rows])


# One look at cell_for for each cell, never a second one at what came of it:
# so two blanks can be exchanged for one another. Rows and patterns alike.
def exchanged(row, cell_for):
    return (row[0], tuple([cell_for.get(cell, cell) for cell in row[1]]))
