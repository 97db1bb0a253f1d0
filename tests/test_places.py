"""Ranks of the places of must rules, or a ring: [16]."""

import random
import unittest

from mustrows.fulls import full
from mustrows.places import ranks
from things import A, B, C, D, E, X, Y, Z, edges, plain_letters, row, some_begin, some_rules

ON = ("must", [row("e", A, B)], [row("e", B, C)])
BACK = ("must", [row("e", A, B)], [row("e", B, A)])
SAME = ("same", [row("s", A, B), row("s", A, C)], B, C)


def plain_places(patterns, wanted=None):
    return {
        (table, column) for table, terms in patterns for column, term in enumerate(terms) if wanted in (None, term)
    }


def plain_arrows(rules):
    """All arrows, as tuples of a place, a place, and whether it is a growing one."""
    found = set()
    for rule in [rule for rule in rules if rule[0] == "must"]:
        body, head = rule[1:]
        for letter in set(plain_letters(body)) & set(plain_letters(head)):
            for place in plain_places(body, ("any", letter)):
                found |= {(place, target, False) for target in plain_places(head, ("any", letter))}
                for new in set(plain_letters(head)) - set(plain_letters(body)):
                    found |= {(place, target, True) for target in plain_places(head, ("any", new))}
    return found


class Places(unittest.TestCase):
    def check_told(self, rules):
        """Ranks that are right show that there is no ring, and a ring that is right shows that there are no ranks."""
        told = ranks(rules)
        self.assertIs(type(told), tuple)
        self.assertEqual(len(told), 2)
        self.assertIs(type(told[1]), list)
        if told[0] == "ranks":
            self.check_ranks(rules, told[1])
        else:
            self.assertEqual(told[0], "ring")
            self.check_ring(rules, told[1])
        return told

    def check_ranks(self, rules, rows):
        patterns = [pattern for rule in rules if rule[0] == "must" for pattern in rule[1] + rule[2]]
        self.assertEqual([place for place, rank in rows], sorted(plain_places(patterns)))
        for line in rows:
            self.assertEqual((type(line), type(line[0]), type(line[1])), (tuple, tuple, int))
            self.assertGreaterEqual(line[1], 0)
        rank_of = dict(rows)
        for place, target, growing in plain_arrows(rules):
            self.assertGreaterEqual(rank_of[target], rank_of[place] + growing)

    def check_ring(self, rules, places):
        self.assertNotEqual(places, [])
        arrows = plain_arrows(rules)
        pairs = list(zip(places, places[1:] + places[:1]))
        for place, target in pairs:
            self.assertIs(type(place), tuple)
            self.assertTrue({(place, target, False), (place, target, True)} & arrows)
        self.assertTrue(any((place, target, True) in arrows for place, target in pairs))

    def check_ranks_told(self, rules):
        told = self.check_told(rules)
        self.assertEqual(told[0], "ranks")
        return dict(told[1])

    def check_ring_told(self, rules):
        told = self.check_told(rules)
        self.assertEqual(told[0], "ring")
        return told[1]


class Ranks(Places):
    def test_each_place_once_and_in_order(self):
        rules = [
            ("must", [row("v", A, B), row("e", B, A, B)], [row("u", A), row("v", B, B)]),
            ("must", [row("u", Z)], [row("d", Z, Z, Z, Z)]),
        ]
        told = self.check_told(rules)
        self.assertEqual([place for place, rank in told[1]], [
            ("d", 0), ("d", 1), ("d", 2), ("d", 3), ("e", 0), ("e", 1), ("e", 2), ("u", 0), ("v", 0), ("v", 1),
        ])

    def test_places_of_names_too(self):
        rank_of = self.check_ranks_told([("must", [row("u", X), row("e", A, X)], [row("v", Y, A), row("w", X)])])
        self.assertEqual(sorted(rank_of), [("e", 0), ("e", 1), ("u", 0), ("v", 0), ("v", 1), ("w", 0)])

    def test_places_of_unknowns_without_an_arrow_too(self):
        rank_of = self.check_ranks_told([("must", [row("e", A, B)], [row("u", C)])])
        self.assertEqual(sorted(rank_of), [("e", 0), ("e", 1), ("u", 0)])

    def test_a_table_of_several_lengths(self):
        rank_of = self.check_ranks_told([("must", [row("e", A)], [row("e", A, B, X)])])
        self.assertEqual(sorted(rank_of), [("e", 0), ("e", 1), ("e", 2)])
        self.assertGreater(rank_of["e", 1], rank_of["e", 0])

    def test_a_growing_arrow_leads_to_a_greater_rank(self):
        rank_of = self.check_ranks_told([("must", [row("u", A)], [row("f", B, A, C)])])
        self.assertGreater(rank_of["f", 0], rank_of["u", 0])
        self.assertGreater(rank_of["f", 2], rank_of["u", 0])
        self.assertGreaterEqual(rank_of["f", 1], rank_of["u", 0])

    def test_growing_arrows_one_behind_another(self):
        rules = [("must", [row(table, B, A)], [row(behind, A, C)]) for table, behind in zip("gfedc", "fedcb")]
        rank_of = self.check_ranks_told(rules)
        self.assertGreaterEqual(rank_of["b", 1], rank_of["g", 1] + 5)

    def test_a_plain_arrow_behind_a_growing_one(self):
        rules = [("must", [row("w", A)], [row("b", A)]), ("must", [row("a", A)], [row("z", A, B)]),
                 ("must", [row("z", A, B)], [row("w", B)])]
        rank_of = self.check_ranks_told(rules)
        self.assertGreater(rank_of["b", 0], rank_of["a", 0])

    def test_a_plain_and_a_growing_arrow_between_two_places(self):
        for head in ([row("v", A), row("v", B)], [row("v", B), row("v", A)]):
            rank_of = self.check_ranks_told([("must", [row("u", A)], head)])
            self.assertGreater(rank_of["v", 0], rank_of["u", 0])
        plain = ("must", [row("u", A)], [row("v", A)])
        growing = ("must", [row("u", A), row("t", A)], [row("v", B), row("s", A)])
        for rules in ([plain, growing], [growing, plain]):
            rank_of = self.check_ranks_told(rules)
            self.assertGreater(rank_of["v", 0], rank_of["u", 0])

    def test_an_unknown_of_the_body_that_is_not_in_the_head_has_no_arrows(self):
        rank_of = self.check_ranks_told([("must", [row("e", A, B)], [row("e", A, C)])])
        self.assertGreater(rank_of["e", 1], rank_of["e", 0])
        self.check_ranks_told([("must", [row("u", A)], [row("u", B)])])
        self.check_ranks_told([("must", [row("u", A), row("v", B)], [row("u", C), row("v", B)])])

    def test_names_have_no_arrows(self):
        self.check_ranks_told([("must", [row("e", A, X)], [row("e", B, X), row("u", X)])])
        self.check_ranks_told([("must", [row("e", X, X)], [row("e", B, X)])])

    def test_rings_of_plain_arrows_alone(self):
        self.check_ranks_told([BACK])
        self.check_ranks_told([("must", [row("u", A)], [row("u", A)])])
        rank_of = self.check_ranks_told([
            ("must", [row("u", A)], [row("v", A)]), ("must", [row("v", A)], [row("u", A), row("e", A, B)]),
            ("must", [row("e", A, B)], [row("f", B, A), row("g", B)]),
        ])
        self.assertEqual(rank_of["u", 0], rank_of["v", 0])
        self.assertGreater(rank_of["g", 0], rank_of["u", 0])

    def test_same_rules_have_no_places(self):
        self.assertEqual(ranks([SAME]), ("ranks", []))
        self.assertEqual(ranks([SAME, SAME]), ("ranks", []))
        rank_of = self.check_ranks_told([SAME, ("must", [row("u", A)], [row("v", A)]), ("same", [row("t", A)], A, X)])
        self.assertEqual(sorted(rank_of), [("u", 0), ("v", 0)])

    def test_no_rules(self):
        self.assertEqual(ranks([]), ("ranks", []))


class Rings(Places):
    def test_of_one_place(self):
        self.assertEqual(self.check_ring_told([("must", [row("u", A)], [row("u", A), row("u", B)])]), [("u", 0)])
        self.assertEqual(set(self.check_ring_told([ON])), {("e", 1)})

        rule = ("must", [row("e", A, B), row("u", C)], [row("e", D, A), row("v", D)])
        self.assertEqual(set(self.check_ring_told([rule])), {("e", 0)})

    def test_of_two_places(self):
        rules = [("must", [row("u", A)], [row("e", A, B)]), ("must", [row("e", A, B)], [row("u", B)])]
        for told in (rules, rules[::-1]):
            self.assertEqual(set(self.check_ring_told(told)), {("u", 0), ("e", 1)})

    def test_over_several_rules(self):
        rules = [
            ("must", [row("u", A)], [row("v", A)]), ("must", [row("v", A)], [row("w", A, B)]),
            ("must", [row("w", A, B)], [row("e", B)]), ("must", [row("e", A)], [row("u", A)]),
        ]
        places = self.check_ring_told(rules)
        self.assertEqual(set(places), {("u", 0), ("v", 0), ("w", 1), ("e", 0)})
        for place in range(4):
            self.check_ranks_told(rules[:place] + rules[place + 1:])

    def test_in_whatever_order_the_rules_are_told(self):
        chance = random.Random(20)
        rules = [("must", [row(table, X, A)], [row(behind, Y, A)]) for table, behind in zip("abcdefg", "bcdefgh")]
        self.check_ranks_told(rules)
        for turn in range(20):
            more = rules + [("must", [row("h", A, B)], [row("a", C, B), row("t", C), row("a", B, D)])]
            chance.shuffle(more)
            self.assertEqual(len(set(self.check_ring_told(more))), 8)

    def test_a_ring_beside_places_without_one(self):
        plain = [("must", [row("u", A)], [row("v", A, B)]), ("must", [row("v", A, B)], [row("w", B, A)])]
        for rules in (plain + [ON], [ON] + plain, [SAME] + plain + [ON, SAME]):
            self.assertEqual(set(self.check_ring_told(rules)), {("e", 1)})

    def test_a_growing_arrow_into_a_ring_of_plain_ones_makes_no_ring(self):
        self.check_ranks_told([BACK, ("must", [row("u", A)], [row("e", A, B)])])
        self.check_ring_told([BACK, ("must", [row("e", A, B)], [row("e", A, C)])])


class ManyRules(Places):
    def some_rule(self, chance, tables):
        terms = [A, B, C, D, E, Z, X]
        body, head = [
            [(chance.choice(tables), tuple(chance.choices(terms, k=chance.randint(1, 3))))
             for count in range(chance.choice((1, 1, 2, 3)))] for side in "bh"
        ]
        return ("must", body, head)

    def test_ranks_or_a_ring(self):
        chance = random.Random(21)
        count = {"ranks": 0, "ring": 0}
        longest = 0
        for turn in range(1500):
            rules = [self.some_rule(chance, "abcdefghij") for number in range(chance.randint(1, 4))]
            rules.insert(chance.randint(0, len(rules)), SAME)
            with self.subTest(rules=rules):
                told = self.check_told(rules)
                count[told[0]] += 1
                longest = max(longest, len(told[1]) if told[0] == "ring" else 0)
        self.assertGreater(min(count.values()), 150)
        self.assertGreater(longest, 2)

    def test_the_greatest_rules(self):
        terms = (A, B, C, D)
        tables = [[letter + other for other in "abcd"] for letter in "abcdefghi"]
        chain = [
            ("must", [(table, terms) for table in one], [(table, terms[1:] + (Z,)) for table in other])
            for one, other in zip(tables, tables[1:])
        ]
        rank_of = self.check_ranks_told(chain)
        self.assertEqual(len(rank_of), 144)
        self.assertGreaterEqual(rank_of["ia", 3], 8)
        closed = chain[:7] + [("must", chain[7][1], [(table, terms[1:] + (Z,)) for table in tables[0]])]
        self.assertGreaterEqual(len(set(self.check_ring_told(closed))), 8)

    def test_where_there_are_ranks_making_full_ends(self):
        chance = random.Random(22)
        seen = new_blanks = 0
        for turn in range(400):
            stand, rules = some_begin(chance), some_rules(chance)
            if self.check_told(rules)[0] == "ranks":
                with self.subTest(stand=stand, rules=rules):
                    told = full(stand, rules, 400)
                    self.assertNotEqual(told[0], "open")
                    seen += 1
                    steps = told[1] if told[0] == "clash" else told[2]
                    new_blanks += any(rules[k][0] == "must" and moves for k, fit, moves in steps)
        self.assertGreater(seen, 150)
        self.assertGreater(new_blanks, 30)
        chain = edges([(number, number + 1) for number in range(20)])
        self.assertEqual(full(chain, [BACK, ("must", [row("e", A, B)], [row("f", B, C)])], 60)[0], "full")


if __name__ == "__main__":
    unittest.main()
