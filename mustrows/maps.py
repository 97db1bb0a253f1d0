"""How one stand is led into another one, and whether two are the same but for their blanks."""

from mustrows.searches import clusters, find_moves
from mustrows.stands import blanks_of


def led(one, other):
    moves = find_moves(one, other)
    return ("never",) if moves is None else ("led", moves)


def renamed(one, other):
    pairs = None
    if rows_of_names(one) == rows_of_names(other):
        pairs = paired(Painted(one, plain_colours(one)), Painted(other, plain_colours(other)))
    if pairs is None:
        return ("apart",)
    return ("same", [(number, ("blank", pairs[number])) for number in sorted(pairs)])


def rows_of_names(rows):
    return [row for row in rows if not blanks_of([row])]


def plain_colours(rows):
    return dict([(number, 0) for number in blanks_of(rows)])


# Rows whose blanks have colours: a blank can only become one of its own colour.
class Painted:
    def __init__(self, rows, colours):
        self.rows = rows
        self.colours = colours


# By the number of each blank of one, that of the blank of other that it becomes; None where there is no way.
# A blank that has its colour for itself is as good as a name; parts that share no other blank are paired each by
# itself. Two candidates for one part are the same but for their blanks, so the first one will do.
def paired(one, other):
    if not told_apart(one, other):
        return None
    pairs = pairs_of_alone(one, other)
    candidates = loose_parts(other)
    for part in loose_parts(one):
        place = 0
        found = None
        while found is None and place < len(candidates):
            found = part_paired(part, candidates[place])
            place += 1
        if found is None:
            return None
        candidates = candidates[:place - 1] + candidates[place:]
        pairs.update(found)
    return pairs


# One blank is given a colour of its own, on both sides: by it others are told apart in their turn.
def part_paired(part, candidate):
    if len(part.rows) != len(candidate.rows):
        return None
    number = blank_to_mark(part)
    for near in list(candidate.colours):
        if candidate.colours[near] == part.colours[number]:
            found = paired(marked(part, number), marked(candidate, near))
            if found is not None:
                return found
    return None


def blank_to_mark(part):
    counts = counts_of(part)
    return min(list(part.colours), key=lambda number: rarity(counts[part.colours[number]]))


# Blanks that are alone already tell nothing new.
def rarity(count):
    return (count == 1, count)


def marked(part, number):
    colours = dict(part.colours)
    colours[number] = -1
    return Painted(part.rows, colours)


def counts_of(part):
    counts = {}
    for colour in part.colours.values():
        counts[colour] = counts.get(colour, 0) + 1
    return counts


def pairs_of_alone(one, other):
    counts = counts_of(one)
    numbers = dict([(colour, number) for number, colour in other.colours.items()])
    return dict([(number, numbers[colour]) for number, colour in one.colours.items() if counts[colour] == 1])


def loose_parts(painted):
    counts = counts_of(painted)
    loose = {}
    for row in painted.rows:
        loose[row] = [number for number in blanks_of([row]) if counts[painted.colours[number]] > 1]
    return [part_of(painted, rows) for rows in clusters(loose)]


def part_of(painted, rows):
    return Painted(rows, dict([(number, painted.colours[number]) for number in blanks_of(rows)]))


# Colours become finer, as long as the rows tell blanks of one colour apart.
# False where the two sides have not as many of each.
def told_apart(one, other):
    count = 0
    while True:
        looks = looks_of(one)
        other_looks = looks_of(other)
        if sorted(looks.values()) != sorted(other_looks.values()):
            return False
        unlike = sorted(set(list(looks.values())))
        finer = dict([(look, colour) for colour, look in enumerate(unlike)])
        if len(finer) == count:
            return True
        count = len(finer)
        one.colours = dict([(number, finer[look]) for number, look in looks.items()])
        other.colours = dict([(number, finer[look]) for number, look in other_looks.items()])


# By each blank's number: its colour, and how it stands in its rows.
def looks_of(painted):
    views = dict([(number, []) for number in painted.colours])
    for row in painted.rows:
        shades = tuple([shade(cell, row[1].index(cell), painted.colours) for cell in row[1]])
        for number in blanks_of([row]):
            views[number].append((row[0], shades, row[1].index(("blank", number))))
    return dict([(number, (painted.colours[number], tuple(sorted(views[number])))) for number in views])


# Where a cell stood first in its row tells which cells of the row are alike.
def shade(cell, first, colours):
    return (cell[0], colours[cell[1]] if cell[0] == "blank" else cell[1], first)
