"""Rules, their fresh letters and broken fits, and stands that keep them: [12] and [13]."""

import random
import unittest

from mustrows.rules import broken, fresh, keeps
from mustrows.stands import stand_of
from things import A, B, C, D, W, X, Y, Z, blank, plain_broken, plain_letters, row, some_stand


class Fresh(unittest.TestCase):
    def test_by_the_alphabet_each_once(self):
        rule = ("must", [row("e", A, D)], [row("f", Z, C, A), row("e", C, Z), row("u", B)])
        self.assertEqual(fresh(rule), ["B", "C", "Z"])

    def test_none(self):
        self.assertEqual(fresh(("must", [row("e", A, B)], [row("e", B, A)])), [])
        self.assertEqual(fresh(("must", [row("u", X)], [row("u", Y)])), [])
        self.assertEqual(fresh(("must", [row("u", A), row("u", B)], [row("u", B)])), [])

    def test_a_letter_of_a_later_pattern_of_the_body_is_not_fresh(self):
        self.assertEqual(fresh(("must", [row("u", B), row("u", A)], [row("e", A, C)])), ["C"])

    def test_a_body_of_names(self):
        self.assertEqual(fresh(("must", [row("u", X)], [row("e", B, A)])), ["A", "B"])


class BrokenMusts(unittest.TestCase):
    def test_rows_that_must_stand(self):
        stand = [row("e", X, Y), row("e", Y, X), row("e", Y, W)]
        rule = ("must", [row("e", A, B)], [row("e", B, A)])
        self.assertEqual(broken(stand, rule), [[("A", Y), ("B", W)]])

    def test_in_order(self):
        stand = [row("u", blank(9)), row("u", blank(10)), row("u", W), row("u", X), row("v", W)]
        rule = ("must", [row("u", Z)], [row("v", Z)])
        self.assertEqual(broken(stand, rule), [[("Z", blank(9))], [("Z", blank(10))], [("Z", X)]])

    def test_fits_tell_all_letters_of_the_body_and_no_fresh_one(self):
        stand = [row("e", X, Y), row("e", Y, W), row("e", Y, Y)]
        rule = ("must", [row("e", B, A), row("e", A, C)], [row("f", C, D)])
        self.assertEqual(broken(stand + [row("f", Y, blank(0))], rule), [
            [("A", Y), ("B", X), ("C", W)],
            [("A", Y), ("B", Y), ("C", W)],
        ])

    def test_a_fresh_unknown_may_be_any_cell(self):
        rule = ("must", [row("u", A)], [row("e", A, B)])
        for cell in (X, Y, blank(0), blank(7)):
            self.assertEqual(broken([row("e", X, cell), row("u", X)], rule), [])
        self.assertEqual(broken([row("e", Y, X), row("u", X)], rule), [[("A", X)]])

    def test_a_fresh_unknown_is_one_cell_in_the_whole_head(self):
        rule = ("must", [row("u", A)], [row("e", A, B), row("v", B)])
        self.assertEqual(broken([row("e", X, Y), row("u", X), row("v", X)], rule), [[("A", X)]])
        self.assertEqual(broken([row("e", X, Y), row("u", X), row("v", Y)], rule), [])

    def test_a_head_that_shares_no_letter_with_the_body(self):
        rule = ("must", [row("u", A)], [row("v", B)])
        self.assertEqual(broken([row("u", X), row("u", Y)], rule), [[("A", X)], [("A", Y)]])
        self.assertEqual(broken([row("u", X), row("u", Y), row("v", W)], rule), [])

    def test_names_in_body_and_head(self):
        rule = ("must", [row("e", X, A)], [row("e", A, Y)])
        self.assertEqual(broken([row("e", W, W), row("e", X, W)], rule), [[("A", W)]])
        self.assertEqual(broken([row("e", W, Y), row("e", X, W)], rule), [])
        self.assertEqual(broken([row("u", X)], ("must", [row("u", X)], [row("v", Y)])), [[]])
        self.assertEqual(broken([row("u", Y)], ("must", [row("u", X)], [row("v", Y)])), [])

    def test_a_blank_keeps_no_rule_for_a_name(self):
        rule = ("must", [row("u", A)], [row("e", A, Y)])
        self.assertEqual(broken([row("e", X, blank(0)), row("u", X)], rule), [[("A", X)]])

    def test_a_body_without_a_fit(self):
        self.assertEqual(broken([], ("must", [row("u", A)], [row("v", A)])), [])
        self.assertEqual(broken([row("u", X)], ("must", [row("u", A, B)], [row("v", A)])), [])

    def test_lengths_count(self):
        rule = ("must", [row("e", A)], [row("e", A, B)])
        self.assertEqual(broken([row("e", X), row("e", X, Y), row("e", Y)], rule), [[("A", Y)]])


class BrokenSames(unittest.TestCase):
    def test_two_unknowns(self):
        stand = [row("e", X, blank(0)), row("e", X, Y), row("e", Y, Y)]
        rule = ("same", [row("e", A, B), row("e", A, C)], B, C)
        self.assertEqual(broken(stand, rule), [
            [("A", X), ("B", blank(0)), ("C", Y)],
            [("A", X), ("B", Y), ("C", blank(0))],
        ])

    def test_unlike_blanks_are_not_the_same(self):
        rule = ("same", [row("e", A, B)], A, B)
        stand = [row("e", blank(0), blank(0)), row("e", blank(0), blank(1)), row("e", X, X)]
        self.assertEqual(broken(stand, rule), [[("A", blank(0)), ("B", blank(1))]])

    def test_an_unknown_and_a_name(self):
        stand = [row("u", blank(0)), row("u", X), row("u", Y)]
        for terms in ((A, X), (X, A)):
            self.assertEqual(broken(stand, ("same", [row("u", A)]) + terms), [[("A", blank(0))], [("A", Y)]])

    def test_two_names(self):
        stand = [row("u", X), row("u", Y)]
        self.assertEqual(broken(stand, ("same", [row("u", A)], X, Y)), [[("A", X)], [("A", Y)]])
        self.assertEqual(broken(stand, ("same", [row("u", A)], X, X)), [])
        self.assertEqual(broken(stand, ("same", [row("v", A)], X, Y)), [])

    def test_one_unknown_twice(self):
        self.assertEqual(broken([row("u", X), row("u", Y)], ("same", [row("u", A)], A, A)), [])

    def test_fits_tell_all_letters_of_the_body(self):
        rule = ("same", [row("e", Z, B), row("u", C)], Z, X)
        self.assertEqual(broken([row("e", Y, W), row("u", X)], rule), [[("B", W), ("C", X), ("Z", Y)]])


class Keeps(unittest.TestCase):
    MUST = ("must", [row("u", A)], [row("v", A)])
    SAME = ("same", [row("e", A, B)], A, B)

    def test_true_and_false_themselves(self):
        self.assertIs(keeps([row("u", X), row("v", X)], [self.MUST]), True)
        self.assertIs(keeps([row("u", X), row("v", Y)], [self.MUST]), False)
        self.assertIs(keeps([row("e", X, X)], [self.SAME]), True)
        self.assertIs(keeps([row("e", X, Y)], [self.SAME]), False)

    def test_each_rule_counts(self):
        stand = [row("e", X, Y), row("u", X)]
        for rules in ([self.MUST, self.SAME], [self.SAME, self.MUST], [self.SAME], [self.MUST]):
            self.assertIs(keeps(stand, rules), False)
        self.assertIs(keeps([row("e", X, X), row("u", X)], [self.SAME, self.MUST]), False)
        self.assertIs(keeps([row("e", X, Y), row("u", X), row("v", X)], [self.MUST, self.SAME]), False)
        self.assertIs(keeps([row("e", X, X), row("u", X), row("v", X)], [self.MUST, self.SAME]), True)

    def test_no_rules_and_no_rows(self):
        self.assertIs(keeps([row("u", X)], []), True)
        self.assertIs(keeps([], [self.MUST, self.SAME]), True)
        self.assertIs(keeps([], []), True)

    def test_bodies_with_very_many_fits(self):
        stand = stand_of([row("u", blank(number)) for number in range(60)])
        body = [row("u", A), row("u", B), row("u", C), row("u", D)]
        self.assertIs(keeps(stand, [("must", body, [row("u", B)])]), True)
        self.assertIs(keeps(stand, [("must", body, [row("v", Z)])]), False)
        self.assertIs(keeps(stand, [("same", body, A, A), ("same", body, X, X)]), True)
        self.assertIs(keeps(stand, [("same", body, B, D)]), False)


class AgainstTheWords(unittest.TestCase):
    def some_rule(self, chance):
        terms = [A, B, C, X]
        body, head = [
            [(chance.choice("eef"), tuple(chance.choices(terms, k=2))) for count in range(chance.choice((1, 1, 2, 3)))]
            for part in "bh"
        ]
        if chance.random() < 0.6:
            return ("must", body, head)
        bound = [("any", letter) for letter in plain_letters(body)] + [X, Y]
        return ("same", body, chance.choice(bound), chance.choice(bound))

    def test_many_stands_and_rules(self):
        chance = random.Random(8)
        cells = [blank(9), blank(10), X, Y]
        some = kept = 0
        for turn in range(1500):
            stand = some_stand(chance, chance.randint(0, 14), cells, "eef", (2,))
            rules = [self.some_rule(chance) for count in range(2)]
            told = [plain_broken(stand, rule) for rule in rules]
            with self.subTest(stand=stand, rules=rules):
                self.assertEqual([broken(stand, rule) for rule in rules], told)
                self.assertIs(keeps(stand, rules), told == [[], []])
            some += any(len(fits) > 1 for fits in told)
            kept += told == [[], []] and len(stand) > 3
        self.assertGreater(some, 200)
        self.assertGreater(kept, 200)


if __name__ == "__main__":
    unittest.main()
