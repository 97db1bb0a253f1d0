"""The promise over the whole program: [3]."""

import itertools
import random
import unittest

from mustrows.cores import least_part
from mustrows.desk import Desk
from mustrows.fits import answers
from mustrows.fulls import full
from mustrows.maps import led, renamed
from mustrows.rules import broken, keeps
from mustrows.stands import moved, stand_of
from mustrows.sures import sure
from mustrows.texts import read_row, read_rule
from test_fulls import Told
from things import (
    A, B, C, X, Y, blank, edges, has_blank, little_homes, plain_blanks, plain_filled, plain_moved, plain_two, ring, row,
    some_begin, some_rules, some_stand,
)


def mended(stand, rules, most, chance):
    """A word of [15], and the stand with broken fits mended in whatever order chance has it."""
    now, unused = set(stand), max(plain_blanks(stand), default=-1) + 1
    for step in range(most + 1):
        found = [(rule, fit) for rule in rules for fit in broken(sorted(now), rule)]
        if not found:
            return ("full", sorted(now))
        rule, fit = chance.choice(found)
        if rule[0] == "same":
            one, other = sorted(plain_two(rule, fit))
            if one[0] == "name":
                return ("clash", None)
            # Not as [14] has it: which of two blanks stays is free here, too.
            if other[0] == "blank" and chance.random() < 0.5:
                one, other = other, one
            now = plain_moved(now, {one[1]: other})
        else:
            letters = [letter for letter in "ABCDEFGZ" if letter not in dict(fit)]
            now |= set(plain_filled(rule[2], fit + [(letter, blank(unused + n)) for n, letter in enumerate(letters)]))
            unused += len(letters)
    return ("open", None)


class Leading(Told):
    """Checks what is led into what."""

    def check_led(self, one, home):
        told = led(one, home)
        self.assertEqual(told[0], "led")
        self.assertEqual([number for number, cell in told[1]], plain_blanks(one))
        self.assertLessEqual(plain_moved(one, dict(told[1])), set(home))

    def check_alike(self, one, other):
        self.check_led(one, other)
        self.check_led(other, one)
        parts = [least_part(one)[0], least_part(other)[0]]
        told = renamed(*parts)
        self.assertEqual(told[0], "same")
        self.assertEqual(moved(parts[0], told[1]), parts[1])


class LittleStands(Leading):
    """Two tables, and rules and stands as chance has them."""

    def test_led_into_each_home_or_there_is_none(self):
        chance = random.Random(10)
        count = {"full": 0, "clash": 0, "open": 0}
        homes_seen = 0
        for turn in range(250):
            stand, rules = some_begin(chance), some_rules(chance)
            with self.subTest(stand=stand, rules=rules):
                told = self.check_told(stand, rules, 12, broken)
                count[told[0]] += 1
                homes = little_homes(stand, rules)
                homes_seen += len(homes)
                if told[0] == "clash":
                    self.assertEqual(homes, [])
                else:
                    for home in homes:
                        self.check_led(told[1], home)
        self.assertGreater(min(count["full"], count["clash"]), 15)
        self.assertGreater(homes_seen, 300)

    def test_led_into_homes_that_are_full_ones_themselves(self):
        chance = random.Random(11)
        seen = 0
        for turn in range(300):
            stand, rules = some_begin(chance), some_rules(chance)
            told = full(stand, rules, 25)
            cells = [blank(number) for number in range(5)] + [X, Y]
            moves = [(number, chance.choice(cells)) for number in plain_blanks(stand)]
            more = stand_of(moved(stand, moves) + some_stand(chance, 2, cells, "e", (2,)))
            home = full(more, rules, 25)
            with self.subTest(stand=stand, rules=rules, more=more):
                if told[0] == "clash":
                    self.assertNotEqual(home[0], "full")
                elif home[0] == "full":
                    self.check_led(told[1], home[1])
                    seen += 1
        self.assertGreater(seen, 80)

    def test_in_whatever_order_the_rules_are_told(self):
        chance = random.Random(12)
        seen = 0
        for turn in range(300):
            stand, rules = some_begin(chance), some_rules(chance)
            told = [full(stand, list(order), 25) for order in itertools.permutations(rules)]
            words = {one[0] for one in told}
            with self.subTest(stand=stand, rules=rules):
                self.assertFalse({"full", "clash"} <= words)
                fulls = [one[1] for one in told if one[0] == "full"]
                for one, other in zip(fulls, fulls[1:]):
                    seen += 1
                    self.check_alike(one, other)
        self.assertGreater(seen, 150)

    def test_in_whatever_order_broken_fits_are_mended(self):
        chance = random.Random(13)
        seen = 0
        for turn in range(300):
            stand, rules = some_begin(chance), some_rules(chance)
            told = full(stand, rules, 25)
            with self.subTest(stand=stand, rules=rules):
                for way in range(2):
                    word, other = mended(stand, rules, 25, chance)
                    self.assertNotIn((told[0], word), (("full", "clash"), ("clash", "full")))
                    if word == told[0] == "full":
                        self.check_alike(told[1], other)
                        seen += 1
                    elif word == "full":
                        self.check_led(told[1], other)
        self.assertGreater(seen, 150)

    def test_a_home_of_a_ring(self):
        told = full(edges([(0, 1)]), [("must", [row("e", A, B)], [row("e", B, C), row("e", C, A)])], 40)
        self.assertEqual(told[:2], ("full", ring(3)))
        self.check_led(told[1], ring(3, 7))


RULES = (
    "works A B => person A",
    "person A => born A B, town B",
    "born A B, born A C => B = C",
    "works A B => heads C B, works C B",
    "heads A C, heads B C => A = B",
    "town A => lies A B, land B",
    "works A B => trusts A C",
    "works A B, heads C B => trusts A C",
)
CLASHING = RULES[:6] + ("works A B => born A paris",)
ROWS = ("works ann ?0", "works bob ?0", "works bob mill", "heads ?3 mill", "born ?3 rome", "born ann ?7", "town ?7")
STAND = stand_of([read_row(text) for text in ROWS])


def some_orders(texts, count):
    chance = random.Random(14)
    return [list(texts), list(texts)[::-1]] + [chance.sample(texts, len(texts)) for turn in range(count)]


class SeveralRules(Leading):
    """Several rules in several orders, over several tables."""

    def test_full_in_each_order_and_led_into_one_another(self):
        rules = [read_rule(text) for text in RULES]
        first = self.check_told(STAND, rules, 40, broken)
        self.assertEqual(first[0], "full")
        self.assertIs(keeps(first[1], rules), True)
        for order in some_orders(rules, 8):
            with self.subTest(order=order):
                told = self.check_told(STAND, order, 40, broken)
                self.assertEqual(told[0], "full")
                self.check_led(STAND, told[1])
                self.check_alike(first[1], told[1])

    def test_mended_in_other_orders(self):
        rules = [read_rule(text) for text in RULES]
        told = full(STAND, rules, 40)
        chance = random.Random(15)
        for turn in range(10):
            word, other = mended(STAND, rules, 400, chance)
            self.assertEqual(word, "full")
            self.check_alike(told[1], other)

    def test_led_into_homes(self):
        rules = [read_rule(text) for text in RULES]
        told = full(STAND, rules, 40)
        question = (["A", "B"], [row("works", A, B), row("person", A)])
        certain = [cells for cells in answers(told[1], question) if not has_blank(cells)]
        self.assertEqual(sure(STAND, rules, question, 40), ("sure", certain))
        everywhere = None
        for cells in itertools.product((("name", "ann"), ("name", "mill"), blank(0)), repeat=3):
            home = full(moved(STAND, list(zip((0, 3, 7), cells))), rules, 40)
            if home[0] == "full":
                self.check_led(told[1], home[1])
                found = set(answers(home[1], question))
                everywhere = found if everywhere is None else everywhere & found
                self.assertLessEqual(set(certain), found)
        # Homes enough to tell apart what is certain from what is not.
        self.assertEqual(sorted(everywhere), certain)

    def test_a_clash_in_each_order(self):
        for order in some_orders([read_rule(text) for text in CLASHING], 8):
            with self.subTest(order=order):
                self.assertEqual(self.check_told(STAND, order, 40, broken)[0], "clash")

    def test_the_same_over_a_desk(self):
        seen = []
        for order in some_orders(RULES, 4):
            desk = Desk()
            for text in ROWS:
                desk.say("put " + text)
            for text in order:
                desk.say("rule " + text)
            self.assertRegex(desk.say("full 40"), "^full [0-9]+$")
            desk.say("least")
            seen.append(stand_of([read_row(text) for text in desk.say("show").split("; ")]))
        for part in seen:
            self.assertEqual(renamed(seen[0], part)[0], "same")


if __name__ == "__main__":
    unittest.main()
