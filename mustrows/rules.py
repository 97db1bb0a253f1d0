"""Rules: their fresh letters, their broken fits, and whether a stand keeps them."""

from mustrows.fits import filled, fits_from, joined, letters_of


def fresh(rule):
    known = letters_of(rule[1])
    return [letter for letter in letters_of(rule[2]) if letter not in known]


def broken(rows, rule):
    return fits_from(rows, rule[1], deciding_letters(rule), broken_cells(rows, rule))


def keeps(rows, rules):
    for rule in rules:
        if broken_cells(rows, rule):
            return False
    return True


# Whether a fit is broken hangs on the cells of these letters of the body alone.
def deciding_letters(rule):
    if rule[0] == "same":
        return letters_of([two_terms(rule)])
    known = letters_of(rule[1])
    return [letter for letter in letters_of(rule[2]) if letter in known]


# The cells of the deciding letters in the broken fits, in order, each once.
# There may be far fewer of them than there are fits.
def broken_cells(rows, rule):
    letters = deciding_letters(rule)
    found = joined(rows, rule[1], letters)
    if rule[0] == "same":
        return [cells for cells in found if is_unlike(two_cells(rule, list(zip(letters, cells))))]
    kept = dict([(cells, True) for cells in joined(rows, rule[2], letters)])
    return [cells for cells in found if cells not in kept]


def is_unlike(cells):
    return cells[0] != cells[1]


# The two terms of a same rule, in the form of a pattern.
def two_terms(rule):
    return ("same", (rule[2], rule[3]))


# What the two terms of a same rule are by a fit, or by as much of it as has their letters.
def two_cells(rule, fit):
    return filled([two_terms(rule)], fit)[0][1]
