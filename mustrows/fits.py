"""Patterns, their fits in a stand, and the answers of questions."""

from mustrows.stands import exchanged


def fits(rows, body):
    return fits_from(rows, body, [], [()])


def filled(patterns, fit):
    cell_for = dict([(("any", letter), cell) for letter, cell in fit])
    return [exchanged(pattern, cell_for) for pattern in patterns]


def answers(rows, question):
    return joined(rows, question[1], question[0])


# The letters of the unknowns of patterns, by the alphabet, each once.
def letters_of(patterns):
    letters = []
    for table, terms in patterns:
        letters.extend([term[1] for term in terms if term[0] == "any"])
    return sorted(set(letters))


# The cells of the wanted letters in each fit of the body, in order, each once.
def joined(rows, body, wanted):
    return joined_from(rows, body, wanted, [], [()])


# All fits of the body whose cells for the known letters are among those found.
# All have the same letters in the same order, so they are in order where their cells are.
def fits_from(rows, body, known, found):
    letters = letters_of(body)
    return [list(zip(letters, cells)) for cells in joined_from(rows, body, letters, known, found)]


# One of the fits of the body that have these cells for the known letters.
# One letter at a time: all such fits may be very many.
def fit_with(rows, body, known, cells):
    known = list(known)
    for letter in letters_of(body):
        if letter not in known:
            cells = joined_from(rows, body, known + [letter], known, [cells])[0]
            known.append(letter)
    return sorted(zip(known, cells))


# As joined, where cells for the known letters, which are wanted or in the body, have been found already.
# Letters that nobody asks for any more are let go at once: a question of few
# letters is then answered without walking through each fit of its body.
def joined_from(rows, body, wanted, known, found):
    pairs = search_order(rows, body, known)
    for place, pair in enumerate(pairs):
        later = list(wanted) + letters_of([behind[0] for behind in pairs[place + 1:]])
        own = letters_of([pair[0]])
        shared = [letter for letter in own if letter in known]
        added = [letter for letter in own if letter in later and letter not in known]
        kept = [letter for letter in known if letter in later]
        groups = grouped(pair[1], shared, added)
        found = extended(found, places_of(shared, known), places_of(kept, known), groups)
        known = kept + added
    # By now just the wanted letters are known, so what is picked is still unlike.
    wanted_places = places_of(wanted, known)
    return sorted([picked(cells, wanted_places) for cells in found])


# Patterns, each with its bindings: those of few rows first, but none that has nothing in common
# with those ahead of it while there is one that has: the search is kept narrow so.
def search_order(rows, body, known):
    rest = sorted([(pattern, bindings(rows, pattern)) for pattern in body], key=lambda pair: len(pair[1]))
    placed = []
    while rest:
        bound = list(known) + letters_of([pair[0] for pair in placed])
        linked = [pair for pair in rest if is_linked(pair[0], bound)]
        taken = linked[0] if linked else rest[0]
        rest.remove(taken)
        placed.append(taken)
    return placed


def is_linked(pattern, known):
    return any([letter in known for letter in letters_of([pattern])])


# For each row that the pattern can become: the cells of its unknowns.
def bindings(rows, pattern):
    found = []
    for table, cells in rows:
        if table == pattern[0] and len(cells) == len(pattern[1]):
            binding = binding_of(pattern[1], cells)
            if binding is not None:
                found.append(binding)
    return found


def binding_of(terms, cells):
    binding = {}
    for term, cell in zip(terms, cells):
        if term[0] == "any":
            if binding.setdefault(term[1], cell) != cell:
                return None
        elif term != cell:
            return None
    return binding


# By the cells of the shared letters: the cells of the added ones, each once.
def grouped(found, shared, added):
    groups = {}
    for binding in found:
        key = tuple([binding[letter] for letter in shared])
        group = groups.setdefault(key, {})
        group[tuple([binding[letter] for letter in added])] = True
    return groups


def extended(found, shared_places, kept_places, groups):
    longer = {}
    for cells in found:
        kept = picked(cells, kept_places)
        for added in groups.get(picked(cells, shared_places), {}):
            longer[kept + added] = True
    return list(longer)


def places_of(letters, known):
    return [known.index(letter) for letter in letters]


def picked(cells, places):
    return tuple([cells[place] for place in places])
