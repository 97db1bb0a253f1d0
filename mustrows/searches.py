"""The search for moves that lead one stand into another one, and what else is parted by shared blanks."""

from mustrows.stands import exchanged


# Moves for the blanks of one by which each of its rows becomes a row of other; None where there are none.
# Parts that share no loose blank are tried each by itself: where one fails,
# the choice that it came from is tried anew, not those of the parts beside it.
def find_moves(one, other):
    search = Search(one, other)
    first = search.first_part()
    if first is None:
        return None
    trail = []
    todo = [(-1, part) for part in search.parted(first)]
    while todo:
        taken = todo.pop()
        trail.append(Choice(taken[0], taken[1], search.narrowest(taken[1]), todo))
        trail = search.with_next_try(trail)
        if not trail:
            return None
        latest = trail[-1]
        todo = latest.todo + [(len(trail) - 1, part) for part in search.parted(latest.result)]
    return settled(first, trail)


# Each choice tells its blanks more narrowly than those above it did.
def settled(first, trail):
    domains = dict(first.domains)
    for choice in trail:
        domains.update(choice.result.domains)
    return [(number, domains[number][0]) for number in sorted(domains)]


# Keys that share a number, in however many steps, come into one cluster; a key without numbers into none.
def clusters(numbers_of):
    keys_of = {}
    for key, numbers in numbers_of.items():
        for number in numbers:
            keys_of.setdefault(number, []).append(key)
    found = []
    seen = {}
    for number in keys_of:
        if number not in seen:
            seen[number] = True
            found.append(cluster_from(number, numbers_of, keys_of, seen))
    return found


def cluster_from(number, numbers_of, keys_of, seen):
    cluster = {}
    waiting = [number]
    while waiting:
        keys = keys_of[waiting.pop()]
        for key in keys:
            if key not in cluster:
                cluster[key] = True
                unseen = [near for near in numbers_of[key] if near not in seen]
                seen.update(dict([(near, True) for near in unseen]))
                waiting.extend(unseen)
    return list(cluster)


# domains: by a blank's number, the cells that it may still become;
# masks: by a row's number in the first stand, the rows that it may still become, as bits.
class Part:
    def __init__(self, domains, masks):
        self.domains = domains
        self.masks = masks


# above: where in the trail the choice stands that left this part; todo: the parts that were still to be
# tried beside it; cell: what was tried last for the blank; result: the part, narrowed by that.
class Choice:
    def __init__(self, above, part, number, todo):
        self.above = above
        self.part = part
        self.number = number
        self.todo = list(todo)
        self.untried = list(reversed(part.domains[number]))
        self.cell = None
        self.result = part


# Sets of rows of the other stand are whole numbers, the row k as the bit 1 << k:
# so what a row may still become is found by a few steps on numbers.
class Search:
    def __init__(self, one, other):
        self.others = dict([(row, True) for row in other])
        self.rows_with = rows_with_cells(other)
        self.holding = holding_rows(other)
        self.spots = [blank_spots(row) for row in one]
        self.first_masks = first_masks(one, other)
        self.rows_of = {}
        for place, spots in enumerate(self.spots):
            for spot in spots:
                self.rows_of.setdefault(spot[1], []).append(place)
        self.weights = dict([(number, len(rows)) for number, rows in self.rows_of.items()])

    def first_part(self):
        if 0 in self.first_masks:
            return None
        part = Part({}, dict(enumerate(self.first_masks)))
        for row, spots in enumerate(self.spots):
            for place, number in spots:
                if number not in part.domains:
                    part.domains[number] = self.first_domain(place, number, part.masks[row])
        return part if self.narrow(part, list(part.masks)) else None

    # The blank itself is tried first, where the other stand has it there:
    # what may stay as it is seldom stands in the way of something else.
    def first_domain(self, place, number, mask):
        held = self.holding[place]
        itself = ("blank", number)
        return sorted([cell for cell in held if held[cell] & mask], key=lambda cell: cell != itself)

    def narrow(self, part, waiting):
        while waiting:
            row = waiting.pop(0)
            narrowed = self.revised(part, row)
            if narrowed is None:
                self.blame(row)
                return False
            for number in narrowed:
                waiting.extend([near for near in self.rows_of[number] if near != row and near not in waiting])
        return True

    # The blanks that have fewer cells left than before, or None where the row can become none any more.
    def revised(self, part, row):
        spots = [(self.holding[place], number) for place, number in self.spots[row] if number in part.domains]
        mask = part.masks[row]
        for held, number in spots:
            mask = mask & any_of(held, part.domains[number])
        if mask == 0:
            return None
        part.masks[row] = mask
        narrowed = []
        for held, number in spots:
            cells = [cell for cell in part.domains[number] if held.get(cell, 0) & mask]
            if len(cells) < len(part.domains[number]):
                part.domains[number] = cells
                narrowed.append(number)
        return narrowed

    # Blanks of rows that failed are tried ahead of others: there a search that must fail is likely to fail soon.
    def blame(self, row):
        for spot in self.spots[row]:
            self.weights[spot[1]] += 1

    def narrowest(self, part):
        return min(list(part.domains), key=lambda number: len(part.domains[number]) * 1000 // self.weights[number])

    # Blanks that have one cell left bind no rows together any more.
    def parted(self, part):
        loose = {}
        for row in part.masks:
            numbers = [spot[1] for spot in self.spots[row]]
            loose[row] = [number for number in numbers if len(part.domains.get(number, [])) > 1]
        return [piece(part, rows, loose) for rows in clusters(loose)]

    # The trail up to the last choice that has a cell left to try, with the first of those that may do;
    # choices of parts beside the one that failed are let go untried.
    def with_next_try(self, trail):
        while trail:
            choice = trail[-1]
            self.drop_twins(choice)
            if choice.untried:
                choice.cell = choice.untried.pop()
                choice.result = self.tried(choice.part, choice.number, choice.cell)
                if choice.result is not None:
                    return trail
            else:
                trail = trail[:choice.above + 1]
        return trail

    # Where a cell failed, those fail too that could change places with it and nobody would see it.
    def drop_twins(self, choice):
        failed = choice.cell
        if failed is not None and failed[0] == "blank":
            choice.untried = [cell for cell in choice.untried if not self.are_twins(choice.part, failed, cell)]

    def are_twins(self, part, one, other):
        return other[0] == "blank" and self.can_change_places(one, other) and self.are_alike(part, one, other)

    def can_change_places(self, one, other):
        exchange = {one: other, other: one}
        for row in self.rows_with[one] + self.rows_with[other]:
            if exchanged(row, exchange) not in self.others:
                return False
        return True

    # Whether each place in the part's rows may become both of the two cells or none of them.
    def are_alike(self, part, one, other):
        for row, mask in part.masks.items():
            for place, number in self.spots[row]:
                held = self.holding[place]
                if (held.get(one, 0) & mask == 0) != (held.get(other, 0) & mask == 0):
                    return False
        return True

    def tried(self, part, number, cell):
        result = Part(dict(part.domains), dict(part.masks))
        result.domains[number] = [cell]
        return result if self.narrow(result, list(self.rows_of[number])) else None


def piece(part, rows, loose):
    domains = {}
    for row in rows:
        for number in loose[row]:
            domains[number] = part.domains[number]
    return Part(domains, dict([(row, part.masks[row]) for row in rows]))


def rows_with_cells(rows):
    rows_with = {}
    for row in rows:
        for cell in row[1]:
            rows_with.setdefault(cell, []).append(row)
    return rows_with


# By a place: by a cell, the rows that have the cell there.
def holding_rows(rows):
    holding = {}
    for number, row in enumerate(rows):
        for place, cell in enumerate(row[1]):
            held = holding.setdefault(place, {})
            held[cell] = held.get(cell, 0) | 1 << number
    return holding


# The places of a row's blanks, the first one of each.
def blank_spots(row):
    cells = row[1]
    return [(k, cells[k][1]) for k in range(len(cells)) if cells[k][0] == "blank" and cells.index(cells[k]) == k]


def first_masks(one, other):
    marked = {}
    for number, row in enumerate(other):
        for mark in marks(row):
            marked[mark] = marked.get(mark, 0) | 1 << number
    found = []
    for row in one:
        mask = (1 << len(other)) - 1
        for mark in marks(row):
            mask = mask & marked.get(mark, 0)
        found.append(mask)
    return found


# What a row keeps, whatever its blanks become: its table and length, its names, and which of its cells are alike.
def marks(row):
    cells = row[1]
    found = [(row[0], len(cells))]
    for place, cell in enumerate(cells):
        if cell[0] == "name":
            found.append((place, cell))
        found.extend([(ahead, place) for ahead in range(place) if cells[ahead] == cell])
    return found


def any_of(held, cells):
    mask = 0
    for cell in cells:
        mask = mask | held.get(cell, 0)
    return mask
