"""Stands made full by rules, step by step."""

from mustrows.fits import filled, fit_with
from mustrows.rules import broken_cells, deciding_letters, fresh, two_cells
from mustrows.stands import blanks_of, moved, stand_of


def full(rows, rules, most):
    stand = list(rows)
    steps = []
    unused = max(blanks_of(stand), default=-1) + 1
    while True:
        chosen = next_broken(stand, rules)
        if chosen is None:
            return ("full", stand, steps)
        fit = chosen[1]
        rule = rules[chosen[0]]
        if is_clash(rule, fit):
            return ("clash", steps, chosen[0], fit)
        if len(steps) >= most:
            return ("open", stand, steps)
        if rule[0] == "same":
            moves = same_moves(rule, fit)
            stand = moved(stand, moves)
        else:
            moves = fresh_moves(rule, unused)
            stand = stand_of(stand + filled(rule[2], fit + moves))
            unused += len(moves)
        steps.append((chosen[0], fit, moves))


# Same rules first, so that a clash is seen as soon as it is there; then rules without fresh letters:
# neither can go on without end, and what they give may spare a step that puts in new blanks.
def next_broken(stand, rules):
    for urgency in range(3):
        found = []
        for k, rule in enumerate(rules):
            if urgency_of(rule) == urgency:
                found.extend([(age(cells), k, cells) for cells in broken_cells(stand, rule)])
        if found:
            oldest = min(found)
            rule = rules[oldest[1]]
            return (oldest[1], fit_with(stand, rule[1], deciding_letters(rule), oldest[2]))
    return None


def urgency_of(rule):
    if rule[0] == "same":
        return 0
    return 2 if fresh(rule) else 1


# What has to do with older blanks is mended first, so that nothing waits for ever behind what goes on without end.
# A clash has to do with no blank: it is ahead of whatever else a same rule asks for.
def age(cells):
    return max([cell[1] for cell in cells if cell[0] == "blank"], default=-1)


# Whether a fit, which is broken, can't be mended.
def is_clash(rule, fit):
    if rule[0] != "same":
        return False
    cells = two_cells(rule, fit)
    return cells[0][0] == "name" and cells[1][0] == "name"


def fresh_moves(rule, unused):
    return [(letter, ("blank", unused + place)) for place, letter in enumerate(fresh(rule))]


# In order, blanks stand ahead of names, and those of lesser numbers ahead of others.
def same_moves(rule, fit):
    cells = sorted(two_cells(rule, fit))
    if cells[1][0] == "name":
        return [(cells[0][1], cells[1])]
    return [(cells[1][1], cells[0])]
