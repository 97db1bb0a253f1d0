"""The places of must rules: their ranks, or a ring of them."""

from mustrows.fits import letters_of
from mustrows.rules import fresh


def ranks(rules):
    arrows = {}
    for rule in rules:
        if rule[0] == "must":
            add_arrows(arrows, rule)
    ring = growing_ring(arrows)
    if ring is not None:
        return ("ring", ring)
    rank_of = least_ranks(arrows)
    return ("ranks", [(place, rank_of[place]) for place in sorted(arrows)])


# Arrows are kept by the place they come from, then by the place they lead to: 1 for a growing one, 0 for a plain one.
# Where there are both between two places, the growing one asks for more, so it alone counts.
def add_arrows(arrows, rule):
    body = spots_of(rule[1])
    head = spots_of(rule[2])
    for term, place in body + head:
        arrows.setdefault(place, {})
    new_terms = [("any", letter) for letter in fresh(rule)]
    lasting = [("any", letter) for letter in letters_of(rule[1]) if letter in letters_of(rule[2])]
    for term, place in body:
        if term in lasting:
            targets = arrows[place]
            for other, target in head:
                if other in new_terms:
                    targets[target] = 1
                elif other == term:
                    targets.setdefault(target, 0)


# Each term of the patterns, with its place.
def spots_of(patterns):
    spots = []
    for table, terms in patterns:
        spots.extend([(term, (table, column)) for column, term in enumerate(terms)])
    return spots


# A way of arrows whose last place leads back to its first one by a growing arrow, or None.
def growing_ring(arrows):
    for first in arrows:
        ways = ways_from(arrows, first)
        for last in ways:
            if arrows[last].get(first, 0) == 1:
                return ways[last]
    return None


# By each place to which arrows lead from the first one: the places on a way there, both ends among them.
def ways_from(arrows, first):
    ways = {first: [first]}
    reached = [first]
    while reached:
        further = []
        for place in reached:
            for target in arrows[place]:
                if target not in ways:
                    ways[target] = ways[place] + [target]
                    further.append(target)
        reached = further
    return ways


# Ranks only rise as far as an arrow asks for it. This comes to an end: no ring has a growing arrow.
def least_ranks(arrows):
    rank_of = dict([(place, 0) for place in arrows])
    rising = True
    while rising:
        rising = False
        for place, targets in arrows.items():
            for target, growth in targets.items():
                if rank_of[target] < rank_of[place] + growth:
                    rank_of[target] = rank_of[place] + growth
                    rising = True
    return rank_of
