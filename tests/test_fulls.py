"""Stands made full, step by step: [14] and [15]."""

import itertools
import random
import unittest

from mustrows.fulls import full
from mustrows.rules import broken
from mustrows.stands import stand_of
from things import (
    A, B, C, D, E, W, X, Y, Z, blank, edges, plain_blanks, plain_broken, plain_filled, plain_letters, plain_moved,
    plain_two, row,
)

ON = ("must", [row("e", A, B)], [row("e", B, C)])
BACK = ("must", [row("e", A, B)], [row("e", B, A)])
CLOSED = ("must", [row("e", A, B), row("e", B, C)], [row("e", A, C)])
ONE_EACH = ("same", [row("e", A, B), row("e", A, C)], B, C)


class Told(unittest.TestCase):
    """Checks what full tells, going along with each of its steps."""

    def check_told(self, stand, rules, most, find_broken=plain_broken):
        told = full(stand, rules, most)
        self.assertIs(type(told), tuple)
        self.assertIn((told[0], len(told)), (("full", 3), ("open", 3), ("clash", 4)))
        steps = told[1] if told[0] == "clash" else told[2]
        self.assertIs(type(steps), list)
        self.assertLessEqual(len(steps), most)
        now = self.replayed(stand, rules, steps, find_broken)
        unkept = [(k, fit) for k, rule in enumerate(rules) for fit in find_broken(now, rule)]
        clashes = [(k, fit) for k, fit in unkept if self.is_clash(rules[k], fit)]
        if told[0] == "clash":
            self.assertIn(told[2:], clashes)
            self.assertIs(type(told[2]), int)
            return told
        self.assertEqual(told[1], now)
        if told[0] == "full":
            self.assertEqual(unkept, [])
        else:
            self.assertEqual(len(steps), most)
            self.assertNotEqual(unkept, [])
            self.assertEqual(clashes, [])
        return told

    def is_clash(self, rule, fit):
        return rule[0] == "same" and [kind for kind, value in plain_two(rule, fit)] == ["name", "name"]

    def replayed(self, stand, rules, steps, find_broken):
        now, given = stand, max(plain_blanks(stand), default=-1)
        for step in steps:
            self.assertIs(type(step), tuple)
            k, fit, moves = step
            self.assertIs(type(k), int)
            self.assertIs(type(moves), list)
            self.assertIn(fit, find_broken(now, rules[k]))
            if rules[k][0] == "must":
                letters = sorted(set(plain_letters(rules[k][2])) - set(plain_letters(rules[k][1])))
                self.assertEqual(moves, [(letter, blank(given + 1 + n)) for n, letter in enumerate(letters)])
                given += len(letters)
                now = stand_of(now + plain_filled(rules[k][2], fit + moves))
            else:
                self.assertEqual(moves, [self.same_move(rules[k], fit)])
                now = sorted(plain_moved(now, dict(moves)))
        return now

    def same_move(self, rule, fit):
        one, other = plain_two(rule, fit)
        self.assertFalse(one[0] == other[0] == "name")
        if one[0] == "name":
            return (other[1], one)
        if other[0] == "name":
            return (one[1], other)
        return (max(one[1], other[1]), min(one, other))


class Steps(Told):
    """What each step is: [14]."""

    def test_a_must_rule_puts_its_head(self):
        told = self.check_told([row("e", X, Y)], [BACK], 5)
        self.assertEqual(told, ("full", [row("e", X, Y), row("e", Y, X)], [(0, [("A", X), ("B", Y)], [])]))

    def test_new_blanks_by_the_letters(self):
        rule = ("must", [row("u", D)], [row("f", Z, C, D), row("f", C, B, Z)])
        told = self.check_told([row("u", X)], [rule], 5)
        self.assertEqual(told[:2], ("full", [
            row("f", blank(1), blank(0), blank(2)), row("f", blank(2), blank(1), X), row("u", X),
        ]))
        self.assertEqual(told[2], [(0, [("D", X)], [("B", blank(0)), ("C", blank(1)), ("Z", blank(2))])])

    def test_new_blanks_behind_the_greatest_of_the_stand(self):
        rule = ("must", [row("u", A)], [row("e", A, B)])
        told = self.check_told([row("u", X), row("v", blank(3)), row("v", blank(999998))], [rule], 5)
        self.assertEqual(told[2], [(0, [("A", X)], [("B", blank(999999))])])

    def test_numbers_are_not_given_again(self):
        first = ("must", [row("u", A)], [row("e", A, B)])
        named = ("same", [row("e", A, B)], B, Y)
        then = ("must", [row("e", A, Y)], [row("g", A, B)])
        told = self.check_told([row("u", X)], [first, named, then], 9)
        self.assertEqual(told, ("full", [row("e", X, Y), row("g", X, blank(1)), row("u", X)], [
            (0, [("A", X)], [("B", blank(0))]),
            (1, [("A", X), ("B", blank(0))], [(0, Y)]),
            (2, [("A", X)], [("B", blank(1))]),
        ]))

    def test_numbers_of_the_beginning_are_not_given_again(self):
        named = ("same", [row("e", A, B)], B, Y)
        then = ("must", [row("e", A, Y)], [row("g", A, B)])
        told = self.check_told([row("e", X, blank(6))], [named, then], 9)
        self.assertEqual(told[1], [row("e", X, Y), row("g", X, blank(7))])

    def test_a_body_of_names(self):
        rule = ("must", [row("u", X)], [row("e", B, A)])
        told = self.check_told([row("u", X), row("u", Y)], [rule], 9)
        self.assertEqual(told[2], [(0, [], [("A", blank(0)), ("B", blank(1))])])
        self.assertEqual(told[1][0], row("e", blank(1), blank(0)))

    def test_rows_that_stand_already_are_not_put_twice(self):
        rule = ("must", [row("e", A, B)], [row("e", B, A), row("e", A, A)])
        told = self.check_told([row("e", X, X), row("e", X, Y)], [rule], 1)
        self.assertEqual(told[1], [row("e", X, X), row("e", X, Y), row("e", Y, X)])

    def test_of_two_blanks_the_greater_becomes_the_lesser(self):
        for one, other in ((2, 11), (11, 2)):
            told = self.check_told([row("e", X, blank(2)), row("e", X, blank(11)), row("u", blank(11))], [ONE_EACH], 5)
            self.assertEqual(told[:2], ("full", [row("e", X, blank(2)), row("u", blank(2))]))
            self.assertEqual([moves for k, fit, moves in told[2]], [[(11, blank(2))]])
            stand = [row("e", blank(one), blank(other))]
            told = self.check_told(stand, [("same", [row("e", A, B)], A, B)], 5)
            self.assertEqual(told[1], [row("e", blank(2), blank(2))])
            self.assertEqual(told[2], [(0, [("A", blank(one)), ("B", blank(other))], [(11, blank(2))])])

    def test_a_blank_becomes_the_name_whatever_side_it_stands_on(self):
        for terms in ((A, B), (B, A)):
            for cells in ((X, blank(4)), (blank(4), X)):
                stand = stand_of([row("e", *cells), row("u", blank(4), blank(4)), row("v", blank(5))])
                told = self.check_told(stand, [("same", [row("e", A, B)]) + terms], 5)
                self.assertEqual(told[1], [row("e", X, X), row("u", X, X), row("v", blank(5))])
                self.assertEqual(told[2], [(0, [("A", cells[0]), ("B", cells[1])], [(4, X)])])

    def test_a_name_of_the_rule(self):
        for terms in ((A, X), (X, A)):
            told = self.check_told([row("u", blank(1)), row("u", X)], [("same", [row("u", A)]) + terms], 5)
            self.assertEqual(told, ("full", [row("u", X)], [(0, [("A", blank(1))], [(1, X)])]))

    def test_fits_tell_all_letters_of_the_body(self):
        rule = ("must", [row("e", A, B), row("u", E), row("e", B, C)], [row("f", A, C, D)])
        stand = [row("e", X, Y), row("e", Y, W), row("u", blank(0)), row("u", W)]
        told = self.check_told(stand, [rule], 1)
        self.assertEqual(told[2][0][1][:3], [("A", X), ("B", Y), ("C", W)])
        self.assertIn(told[2][0][1][3:], [[("E", blank(0))], [("E", W)]])


class Words(Told):
    """full, clash or open: [15]."""

    def test_what_keeps_the_rules_is_full_at_once(self):
        for most in (0, 1, 40):
            stand = [row("e", X, Y), row("e", Y, X)]
            self.assertEqual(full(stand, [BACK], most), ("full", stand, []))
            self.assertEqual(full(stand, [], most), ("full", stand, []))
            self.assertEqual(full([], [BACK, ONE_EACH], most), ("full", [], []))
            self.assertEqual(full([], [], most), ("full", [], []))

    def test_open_behind_just_as_many_steps_as_are_let_by(self):
        for most in (0, 1, 2, 7, 40):
            told = self.check_told([row("e", X, Y)], [ON], most, broken)
            self.assertEqual(told[0], "open")
            self.assertEqual(len(told[1]), most + 1)
        self.assertEqual(full([row("e", X, Y)], [BACK], 0), ("open", [row("e", X, Y)], []))

    def test_full_behind_the_last_step_that_is_let_by(self):
        chain = edges([(k, k + 1) for k in range(4)])
        self.assertEqual(self.check_told(chain, [BACK], 3)[0], "open")
        self.assertEqual(self.check_told(chain, [BACK], 4)[0], "full")
        self.assertEqual(self.check_told(chain, [BACK], 5)[0], "full")

    def test_a_clash_at_once(self):
        for most in (0, 5):
            told = self.check_told([row("e", X, W), row("e", X, Y)], [BACK, ONE_EACH], most)
            self.assertEqual(told[0], "clash")
            self.assertEqual(told[2], 1)
        self.assertEqual(full([row("u", X)], [("same", [row("u", A)], A, Y)], 0), ("clash", [], 0, [("A", X)]))

    def test_a_clash_of_two_names_of_the_rule(self):
        rule = ("same", [row("u", A), row("v", A)], X, Y)
        self.assertEqual(full([row("u", W), row("v", W)], [rule], 9), ("clash", [], 0, [("A", W)]))
        self.assertEqual(full([row("u", W), row("v", X)], [rule], 9)[0], "full")
        self.assertEqual(full([row("u", W), row("v", W)], [rule[:2] + (X, X)], 9)[0], "full")

    def test_a_clash_behind_steps(self):
        rules = [("must", [row("u", A)], [row("e", A, Y)]), ONE_EACH]
        told = self.check_told([row("e", X, W), row("u", X)], rules, 9)
        self.assertEqual((told[0], told[2], len(told[1])), ("clash", 1, 1))

    def test_a_clash_is_not_told_as_open_where_no_step_is_left(self):
        rules = [("must", [row("u", A)], [row("e", A, Y)]), ONE_EACH]
        told = self.check_told([row("e", X, W), row("u", X)], rules, 1)
        self.assertEqual((told[0], told[2]), ("clash", 1))
        told = self.check_told([row("e", X, W), row("u", X)], rules, 0)
        self.assertEqual(told[0], "open")

    def test_a_clash_that_comes_of_blanks_made_the_same(self):
        stand = [row("e", X, blank(0)), row("e", X, blank(1)), row("f", blank(0), W), row("f", blank(1), Y)]
        rules = [ONE_EACH, ("same", [row("f", A, B), row("f", A, C)], B, C)]
        told = self.check_told(stand, rules, 9)
        self.assertEqual((told[0], told[2], len(told[1])), ("clash", 1, 1))
        self.assertEqual(self.check_told(stand, rules, 0)[0], "open")

    def test_a_blank_and_a_name_are_no_clash(self):
        told = self.check_told([row("e", X, blank(0)), row("e", X, Y)], [ONE_EACH], 9)
        self.assertEqual(told[:2], ("full", [row("e", X, Y)]))

    def test_closed_ways(self):
        told = self.check_told(edges([(k, k + 1) for k in range(6)]), [CLOSED], 40, broken)
        self.assertEqual(told[0], "full")
        self.assertEqual(told[1], edges(itertools.combinations(range(7), 2)))
        self.assertEqual(len(told[2]), 15)

    def test_a_rule_waits_for_none_that_goes_on_without_end(self):
        rules = [ON, ("must", [row("u", A)], [row("v", A, B)]), ("same", [row("v", A, B)], X, Y)]
        self.assertEqual(self.check_told([row("e", X, Y), row("u", W)], rules, 40, broken)[0], "clash")

    def test_many_rules_and_rows(self):
        rules = [
            CLOSED, ONE_EACH[:1] + ([row("f", A, B), row("f", A, C)], B, C),
            ("must", [row("e", A, B)], [row("f", B, C), row("g", C, D)]), ("must", [row("f", A, B)], [row("u", B)]),
            ("same", [row("g", A, B), row("g", A, C)], B, C), ("must", [row("g", A, B)], [row("h", B, A, C)]),
            ("must", [row("h", A, B, C), row("h", C, D, E)], [row("e", A, C)]), ("same", [row("h", A, B, C)], A, A),
        ]
        chance = random.Random(9)
        stand = edges([chance.choices(range(40), k=2) for count in range(60)])
        told = self.check_told(stand, rules, 40, broken)
        self.assertEqual(told[0], "open")
        # What was told may be handed in again.
        self.assertEqual(self.check_told(told[1], rules, 40, broken)[0], "open")

    def test_a_body_with_very_many_fits(self):
        stand = [row("u", blank(number)) for number in range(40)]
        told = self.check_told(stand, [("same", [row("u", A), row("u", B), row("u", C), row("u", D)], B, D)], 39,
                               lambda rows, rule: AnyFit(rows))
        self.assertEqual(told[:2], ("full", [row("u", blank(0))]))


class AnyFit:
    """The broken fits of the rule above, which are too many to be told one by one."""

    def __init__(self, rows):
        self.cells = [line[1][0] for line in rows]

    def __contains__(self, fit):
        cells = dict(fit)
        is_fit = [letter for letter, cell in fit] == list("ABCD") and set(cells.values()) <= set(self.cells)
        return is_fit and cells["B"] != cells["D"]

    def __iter__(self):
        return iter([] if len(self.cells) == 1 else [list(zip("ABCD", self.cells * 2))])


if __name__ == "__main__":
    unittest.main()
