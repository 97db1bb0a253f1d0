"""What holds everywhere, asked with a question: [17]."""

import random
import unittest

from mustrows.fulls import full
from mustrows.stands import moved, stand_of
from mustrows.sures import sure
from things import (
    A, B, C, D, W, X, Y, blank, edges, has_blank, little_homes, plain_answers, plain_blanks, plain_broken,
    plain_letters, row, some_begin, some_rules, some_stand,
)

PAIRS = (["A", "B"], [row("e", A, B)])
ON = ("must", [row("e", A, B)], [row("e", B, C)])
BACK = ("must", [row("e", A, B)], [row("e", B, A)])
ONE_EACH = ("same", [row("e", A, B), row("e", A, C)], B, C)


class Sure(unittest.TestCase):
    def test_answers_in_the_full_one(self):
        stand = [row("e", X, Y), row("u", W)]
        self.assertEqual(sure(stand, [BACK], PAIRS, 5), ("sure", [(X, Y), (Y, X)]))
        self.assertEqual(sure(stand, [BACK], (["B"], [row("e", Y, B)]), 5), ("sure", [(X,)]))
        self.assertEqual(sure(stand, [BACK], (["B"], [row("e", B, W)]), 5), ("sure", []))

    def test_answers_with_a_blank_are_left_out(self):
        stand = [row("e", blank(0), blank(1)), row("e", blank(1), X), row("e", X, blank(0)), row("e", X, Y)]
        self.assertEqual(sure(stand, [], PAIRS, 5), ("sure", [(X, Y)]))
        self.assertEqual(sure(stand, [], (["A"], PAIRS[1]), 5), ("sure", [(X,)]))
        self.assertEqual(sure(stand, [], (["B"], PAIRS[1]), 5), ("sure", [(X,), (Y,)]))
        rule = ("must", [row("e", A, B)], [row("f", A, B, C)])
        found = sure(stand, [rule], (["A", "B", "C"], [row("f", A, B, C)]), 5)
        self.assertEqual(found, ("sure", []))
        self.assertEqual(sure(stand, [rule], (["B", "A"], [row("f", A, B, C)]), 5), ("sure", [(Y, X)]))

    def test_a_blank_may_stand_in_a_fit_where_it_is_not_asked_for(self):
        rule = ("must", [row("u", A)], [row("e", A, B), row("v", B)])
        stand = [row("u", X), row("u", Y)]
        question = (["A"], [row("e", A, B), row("v", B)])
        self.assertEqual(sure(stand, [rule], question, 5), ("sure", [(X,), (Y,)]))

    def test_a_blank_that_becomes_a_name(self):
        stand = [row("e", X, blank(0)), row("e", X, Y), row("u", blank(0))]
        self.assertEqual(sure(stand, [], (["A"], [row("u", A)]), 5), ("sure", []))
        self.assertEqual(sure(stand, [ONE_EACH], (["A"], [row("u", A)]), 5), ("sure", [(Y,)]))

    def test_letters_in_their_order_and_twice(self):
        stand = [row("e", X, Y)]
        self.assertEqual(sure(stand, [BACK], (["B", "A", "B"], [row("e", A, B)]), 5), ("sure", [(X, Y, X), (Y, X, Y)]))

    def test_answers_in_order_each_once(self):
        stand = [row("e", blank(3), Y), row("e", W, Y), row("e", X, W), row("e", X, Y), row("e", Y, X)]
        self.assertEqual(sure(stand, [], (["B"], PAIRS[1]), 0), ("sure", [(W,), (X,), (Y,)]))

    def test_a_question_of_no_letters(self):
        stand = [row("e", X, blank(0))]
        self.assertEqual(sure(stand, [], ([], [row("e", A, B)]), 5), ("sure", [()]))
        self.assertEqual(sure(stand, [], ([], [row("e", A, A)]), 5), ("sure", []))
        self.assertEqual(sure(stand, [ON], ([], [row("e", A, B), row("e", B, C)]), 5), ("open", [()]))
        self.assertEqual(sure(stand, [ON], ([], [row("e", A, A)]), 5), ("open", []))
        self.assertEqual(sure(stand, [BACK], ([], [row("e", A, B), row("e", B, A)]), 5), ("sure", [()]))

    def test_a_body_of_no_patterns(self):
        self.assertEqual(sure([row("u", X)], [], ([], []), 5), ("sure", [()]))
        self.assertEqual(sure([], [], ([], []), 0), ("sure", [()]))

    def test_no_rows_and_no_rules(self):
        self.assertEqual(sure([], [BACK, ON, ONE_EACH], PAIRS, 5), ("sure", []))
        self.assertEqual(sure([], [], PAIRS, 0), ("sure", []))
        self.assertEqual(sure([row("e", X, Y)], [], PAIRS, 0), ("sure", [(X, Y)]))

    def test_full_behind_the_last_step_that_is_let_by(self):
        chain = stand_of([row("e", X, Y), row("e", Y, W)])
        self.assertEqual(sure(chain, [BACK], PAIRS, 2)[0], "sure")
        self.assertEqual(sure(chain, [BACK], PAIRS, 1)[0], "open")


class Clash(unittest.TestCase):
    def test_at_once(self):
        for most in (0, 5, 40):
            self.assertEqual(sure([row("e", X, W), row("e", X, Y)], [BACK, ONE_EACH], PAIRS, most), ("clash",))

    def test_behind_steps(self):
        rules = [("must", [row("u", A)], [row("e", A, Y)]), ONE_EACH]
        self.assertEqual(sure([row("e", X, W), row("u", X)], rules, PAIRS, 5), ("clash",))
        self.assertEqual(sure([row("e", X, blank(0)), row("u", X)], rules, PAIRS, 5), ("sure", [(X, Y)]))

    def test_whatever_is_asked(self):
        rule = ("same", [row("u", A)], A, X)
        for question in (PAIRS, ([], [row("u", Y)]), ([], [])):
            self.assertEqual(sure([row("u", Y)], [rule], question, 5), ("clash",))


class Open(unittest.TestCase):
    def test_no_step_let_by(self):
        stand = [row("e", X, blank(0)), row("e", X, Y)]
        self.assertEqual(sure(stand, [BACK], PAIRS, 0), ("open", [(X, Y)]))
        self.assertEqual(sure(stand, [ONE_EACH], PAIRS, 0), ("open", [(X, Y)]))
        self.assertEqual(sure(stand, [BACK], ([], [row("e", A, B), row("e", B, A)]), 0), ("open", []))

    def test_what_holds_behind_the_steps(self):
        # But one fit is broken at a time, so all ways come to one.
        rule = ("must", [row("e", A, B)], [row("e", B, C), row("u", A)])
        asked = (["A"], [row("u", A)])
        self.assertEqual(sure([row("e", X, Y)], [rule], asked, 0), ("open", []))
        self.assertEqual(sure([row("e", X, Y)], [rule], asked, 1), ("open", [(X,)]))
        for most in (2, 3, 40):
            self.assertEqual(sure([row("e", X, Y)], [rule], asked, most), ("open", [(X,), (Y,)]))
        self.assertEqual(sure([row("e", X, Y)], [rule], PAIRS, 40), ("open", [(X, Y)]))

    def test_answers_are_told_though_it_goes_on_without_end(self):
        told = sure([row("e", X, Y), row("u", W)], [ON], (["A", "B"], [row("e", X, A), row("u", B)]), 40)
        self.assertEqual(told, ("open", [(Y, W)]))


class InHomes(unittest.TestCase):
    """What is told as sure or as open is an answer in each home; what is sure is all of it."""

    def some_question(self, chance):
        body = []
        for count in range(chance.choice((1, 1, 2))):
            pair = row("e", chance.choice((A, B, X)), chance.choice((B, C)))
            body.append(chance.choice((row("u", chance.choice((A, B))), pair)))
        letters = plain_letters(body)
        return (chance.choices(letters, k=chance.randint(0, 2)) if letters else [], body)

    def check_told(self, stand, rules, question, most):
        told = sure(stand, rules, question, most)
        self.assertIs(type(told), tuple)
        if told[0] == "clash":
            self.assertEqual(told, ("clash",))
            return told
        self.assertIn(told[0], ("sure", "open"))
        self.assertEqual(len(told), 2)
        self.assertIs(type(told[1]), list)
        self.assertEqual(told[1], sorted(set(told[1])))
        for answer in told[1]:
            self.assertIs(type(answer), tuple)
            self.assertEqual(len(answer), len(question[0]))
            self.assertFalse(has_blank(answer))
        return told

    def test_little_homes(self):
        chance = random.Random(30)
        count = {"sure": 0, "open": 0, "clash": 0}
        seen = 0
        for turn in range(300):
            stand, rules, question = some_begin(chance), some_rules(chance), self.some_question(chance)
            with self.subTest(stand=stand, rules=rules, question=question):
                for most in (chance.randint(0, 3), 15):
                    told = self.check_told(stand, rules, question, most)
                    count[told[0]] += 1
                    homes = little_homes(stand, rules)
                    if told[0] == "clash":
                        self.assertEqual(homes, [])
                        continue
                    for home in homes:
                        self.assertLessEqual(set(told[1]), plain_answers(home, question))
                        seen += bool(told[1])
        self.assertGreater(min(count.values()), 30)
        self.assertGreater(seen, 300)

    def test_what_is_sure_is_all_that_holds_in_the_full_one(self):
        # The full one is a home itself, and no blank of it is a name: what is not an answer there is no answer in
        # every home.
        chance = random.Random(31)
        seen = 0
        for turn in range(300):
            stand, rules, question = some_begin(chance), some_rules(chance), self.some_question(chance)
            with self.subTest(stand=stand, rules=rules, question=question):
                told = self.check_told(stand, rules, question, 25)
                home = full(stand, rules, 25)
                if told[0] == "sure" and home[0] == "full":
                    found = plain_answers(home[1], question)
                    self.assertEqual(set(told[1]), {answer for answer in found if not has_blank(answer)})
                    seen += any(has_blank(answer) for answer in found) and bool(told[1])
        self.assertGreater(seen, 20)

    def test_homes_that_are_made_of_the_stand(self):
        chance = random.Random(32)
        cells = [blank(number) for number in range(4)] + [W, X, Y]
        seen = 0
        for turn in range(200):
            stand, rules, question = some_begin(chance), some_rules(chance), self.some_question(chance)
            told = self.check_told(stand, rules, question, chance.choice((0, 2, 25)))
            for way in range(2):
                moves = [(number, chance.choice(cells)) for number in plain_blanks(stand)]
                home = full(stand_of(moved(stand, moves) + some_stand(chance, 2, cells, "e", (2,))), rules, 25)
                if home[0] == "full":
                    with self.subTest(stand=stand, rules=rules, question=question, home=home[1]):
                        self.assertEqual([rule for rule in rules if plain_broken(home[1], rule)], [])
                        self.assertNotEqual(told[0], "clash")
                        self.assertLessEqual(set(told[1]), plain_answers(home[1], question))
                        seen += bool(told[1])
        self.assertGreater(seen, 40)

    def test_a_great_stand(self):
        chain = edges([(number, number + 1) for number in range(39)])
        chain = stand_of(chain + [row("e", X, blank(0)), row("e", X, Y)])
        question = (["D", "A"], [row("e", A, B), row("e", B, C), row("e", C, D), row("u", D)])
        rules = [("must", [row("e", A, B)], [row("u", B)]), ONE_EACH, ("same", [row("u", A), row("e", A, B)], B, Y)]
        self.assertEqual(self.check_told(chain, rules, question, 40)[0], "open")
        self.assertEqual(self.check_told(chain, rules, question, 200), ("sure", [(Y, X), (Y, Y)]))


if __name__ == "__main__":
    unittest.main()
