"""What the tests share: short ways to write things down, and the document's words taken at their plainest."""

import itertools

from mustrows.stands import stand_of


def name(text):
    return ("name", text)


def blank(number):
    return ("blank", number)


def unknown(letter):
    return ("any", letter)


def row(table, *cells):
    return (table, tuple(cells))


A, B, C, D, E, Z = [unknown(letter) for letter in "ABCDEZ"]
W, X, Y = name("w"), name("x"), name("y")


def some_stand(chance, rows, cells, tables="ef", lengths=(1, 2, 2, 3)):
    return stand_of([
        (chance.choice(tables), tuple(chance.choices(cells, k=chance.choice(lengths)))) for count in range(rows)
    ])


def edges(pairs):
    """A stand of one table: a pair of numbers is a row of two blanks."""
    return stand_of([row("e", blank(one), blank(other)) for one, other in pairs])


def both_ways(pairs):
    pairs = list(pairs)
    return edges(pairs + [(other, one) for one, other in pairs])


def ring(count, first=0):
    return edges([(first + k, first + (k + 1) % count) for k in range(count)])


def clique(count, first=0):
    return both_ways(itertools.combinations(range(first, first + count), 2))


def plain_blanks(rows):
    return sorted({cell[1] for table, cells in rows for cell in cells if cell[0] == "blank"})


def plain_moved(rows, cell_of):
    """The rows as a set, with the blanks that are told exchanged, all at once."""
    return {
        (table, tuple(cell_of.get(cell[1], cell) if cell[0] == "blank" else cell for cell in cells))
        for table, cells in rows
    }


def plain_led(one, other):
    """Whether one is led into other: each cell tried for each blank."""
    numbers = plain_blanks(one)
    cells = sorted({cell for table, cells in other for cell in cells})
    return any(
        plain_moved(one, dict(zip(numbers, choice))) <= set(other)
        for choice in itertools.product(cells, repeat=len(numbers))
    )


def plain_same(one, other):
    """Whether both are the same but for their blanks: each pairing tried."""
    numbers, others = plain_blanks(one), plain_blanks(other)
    return len(numbers) == len(others) and any(
        plain_moved(one, dict(zip(numbers, map(blank, order)))) == set(other)
        for order in itertools.permutations(others)
    )


def plain_letters(patterns):
    return sorted({term[1] for table, terms in patterns for term in terms if term[0] == "any"})


def plain_filled(patterns, fit):
    cell_of = dict(fit)
    return [
        (table, tuple(cell_of[term[1]] if term[0] == "any" else term for term in terms)) for table, terms in patterns
    ]


def plain_fits(stand, body):
    """Each cell tried for each unknown."""
    letters = plain_letters(body)
    cells = sorted({cell for table, cells in stand for cell in cells})
    fits = [list(zip(letters, choice)) for choice in itertools.product(cells, repeat=len(letters))]
    return [fit for fit in fits if set(plain_filled(body, fit)) <= set(stand)]


def plain_two(rule, fit):
    return plain_filled([("two", rule[2:])], fit)[0][1]


def plain_broken(stand, rule):
    found = plain_fits(stand, rule[1])
    if rule[0] == "same":
        return [fit for fit in found if len(set(plain_two(rule, fit))) == 2]
    letters = plain_letters(rule[1])
    together = plain_fits(stand, rule[1] + rule[2])
    kept = [[pair for pair in fit if pair[0] in letters] for fit in together]
    return [fit for fit in found if fit not in kept]


def some_rules(chance):
    """Rules of a unary table u and a table e of pairs."""
    def pattern(terms):
        return row("u", chance.choice(terms)) if chance.random() < 0.4 else row("e", *chance.choices(terms, k=2))
    rules = []
    for count in range(chance.randint(1, 3)):
        body = [pattern([A, B, C, A, B, C, X]) for part in range(chance.choice((1, 1, 2)))]
        bound = [("any", letter) for letter in plain_letters(body)] + [X]
        if chance.random() < 0.7:
            rules.append(("must", body, [pattern(bound + bound + [D, Z]) for part in range(chance.choice((1, 1, 2)))]))
        else:
            rules.append(("same", body, chance.choice(bound), chance.choice(bound + [Y])))
    return rules


def some_begin(chance):
    """A stand of the same tables."""
    cells = [blank(0), blank(1), blank(2), X, Y]
    return stand_of(
        some_stand(chance, chance.randint(1, 3), cells, "e", (2,)) + some_stand(chance, 1, cells, "u", (1,))
    )


def little_stands(cells):
    """Each stand of u and e over the cells."""
    lines = [row("u", cell) for cell in cells] + [row("e", *pair) for pair in itertools.product(cells, repeat=2)]
    for count in range(len(lines) + 1):
        for chosen in itertools.combinations(lines, count):
            yield stand_of(list(chosen))


LITTLE = [stand for cells in ((X, Y), (X, blank(0)), (blank(0), blank(1))) for stand in little_stands(cells)]


def little_homes(stand, rules):
    """Some of the stands that keep the rules and into which the stand is led."""
    return [
        home for home in LITTLE
        if plain_led(stand, home) and not any(plain_broken(home, rule) for rule in rules)
    ]


def plain_answers(stand, question):
    """The answers as a set."""
    letters, body = question
    return {tuple(dict(fit)[letter] for letter in letters) for fit in plain_fits(stand, body)}


def has_blank(cells):
    return any(kind == "blank" for kind, value in cells)
