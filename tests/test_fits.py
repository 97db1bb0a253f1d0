"""Fits, filled patterns and answers: [6], [7] and [8]."""

import itertools
import random
import unittest

from mustrows.fits import answers, filled, fits
from mustrows.stands import stand_of
from things import A, B, C, D, W, X, Y, Z, blank, name, plain_filled, plain_fits, plain_letters, row, some_stand


class Fits(unittest.TestCase):
    def test_each_fit_once_and_in_order(self):
        stand = [row("e", blank(9), Y), row("e", blank(10), X), row("e", X, X), row("e", Y, blank(9))]
        self.assertEqual(fits(stand, [row("e", A, B)]), [
            [("A", blank(9)), ("B", Y)],
            [("A", blank(10)), ("B", X)],
            [("A", X), ("B", X)],
            [("A", Y), ("B", blank(9))],
        ])

    def test_letters_rising_whatever_their_place_in_the_body(self):
        stand = [row("e", X, W), row("e", Y, blank(0)), row("u", X)]
        self.assertEqual(fits(stand, [row("e", Z, A)]), [
            [("A", blank(0)), ("Z", Y)],
            [("A", W), ("Z", X)],
        ])
        self.assertEqual(fits(stand, [row("u", D), row("e", C, B)]), [
            [("B", blank(0)), ("C", Y), ("D", X)],
            [("B", W), ("C", X), ("D", X)],
        ])

    def test_one_unknown_twice_in_a_pattern(self):
        stand = [row("e", blank(0), blank(0)), row("e", blank(0), blank(1)), row("e", X, X), row("e", X, Y)]
        self.assertEqual(fits(stand, [row("e", A, A)]), [[("A", blank(0))], [("A", X)]])

    def test_one_unknown_in_several_patterns(self):
        stand = [row("e", W, X), row("e", X, Y), row("e", Y, W), row("u", X), row("u", Y)]
        self.assertEqual(fits(stand, [row("e", A, B), row("e", B, C), row("u", C)]), [
            [("A", W), ("B", X), ("C", Y)],
            [("A", Y), ("B", W), ("C", X)],
        ])

    def test_one_pattern_twice(self):
        stand = [row("u", X), row("u", Y)]
        self.assertEqual(fits(stand, [row("u", A), row("u", A)]), [[("A", X)], [("A", Y)]])

    def test_two_unknowns_may_have_the_same_cell(self):
        stand = [row("u", X), row("u", Y)]
        self.assertEqual(fits(stand, [row("u", A), row("u", B)]), [
            [("A", X), ("B", X)], [("A", X), ("B", Y)], [("A", Y), ("B", X)], [("A", Y), ("B", Y)],
        ])

    def test_names_in_patterns(self):
        stand = [row("e", blank(0), Y), row("e", X, W), row("e", X, Y), row("e", Y, X)]
        self.assertEqual(fits(stand, [row("e", X, A)]), [[("A", W)], [("A", Y)]])
        self.assertEqual(fits(stand, [row("e", A, Y)]), [[("A", blank(0))], [("A", X)]])
        self.assertEqual(fits(stand, [row("e", A, name("q"))]), [])

    def test_names_alone(self):
        stand = [row("e", X, Y), row("u", X)]
        self.assertEqual(fits(stand, [row("e", X, Y), row("u", X)]), [[]])
        self.assertEqual(fits(stand, [row("e", Y, X)]), [])
        self.assertEqual(fits(stand, [row("e", X, Y), row("u", Y)]), [])

    def test_a_blank_fits_no_name(self):
        self.assertEqual(fits([row("u", blank(0))], [row("u", X)]), [])

    def test_more_or_fewer_terms_than_cells(self):
        stand = [row("e", X, Y)]
        self.assertEqual(fits(stand, [row("e", A)]), [])
        self.assertEqual(fits(stand, [row("e", A, B, C)]), [])
        self.assertEqual(fits(stand, [row("e", X)]), [])

    def test_rows_of_several_lengths_in_one_table(self):
        stand = [row("e", X), row("e", X, Y), row("e", X, Y, W)]
        self.assertEqual(fits(stand, [row("e", A, B)]), [[("A", X), ("B", Y)]])
        self.assertEqual(fits(stand, [row("e", A), row("e", A, B, C)]), [[("A", X), ("B", Y), ("C", W)]])

    def test_a_table_with_no_rows(self):
        self.assertEqual(fits([row("e", X, Y)], [row("f", A, B)]), [])
        self.assertEqual(fits([row("e", X, Y)], [row("e", A, B), row("f", C)]), [])
        self.assertEqual(fits([], [row("e", A)]), [])

    def test_a_body_with_no_fit_whose_patterns_have_some(self):
        stand = [row("e", X, Y), row("u", W)]
        self.assertEqual(fits(stand, [row("e", A, B), row("u", A)]), [])
        self.assertEqual(fits(stand, [row("e", A, A)]), [])

    def test_the_body_of_none(self):
        self.assertEqual(fits([row("e", X, Y)], []), [[]])
        self.assertEqual(fits([], []), [[]])

    def test_the_patterns_order_changes_no_fit(self):
        stand = stand_of([row("e", name(one), name(other)) for one, other in ("ab", "bc", "ca", "bb", "ac")])
        body = [row("e", A, B), row("e", B, C), row("e", C, D)]
        for order in itertools.permutations(body):
            self.assertEqual(fits(stand, list(order)), fits(stand, body))


class Filled(unittest.TestCase):
    def test_one_row_for_each_pattern_in_their_order(self):
        patterns = [row("u", B), row("e", A, B), row("e", X, A), row("c", A)]
        fit = [("A", blank(3)), ("B", Y)]
        self.assertEqual(filled(patterns, fit), [
            row("u", Y), row("e", blank(3), Y), row("e", X, blank(3)), row("c", blank(3)),
        ])

    def test_two_alike_where_two_become_alike(self):
        self.assertEqual(filled([row("u", A), row("u", B), row("u", X)], [("A", X), ("B", X)]), [row("u", X)] * 3)

    def test_a_fit_with_cells_for_more_letters(self):
        fit = [("A", X), ("B", Y), ("Z", blank(0))]
        self.assertEqual(filled([row("e", B, B)], fit), [row("e", Y, Y)])

    def test_names_alone(self):
        self.assertEqual(filled([row("e", X, Y)], []), [row("e", X, Y)])

    def test_no_patterns(self):
        self.assertEqual(filled([], [("A", X)]), [])

    def test_a_body_filled_by_its_fits_stands(self):
        stand = [row("e", blank(0), X), row("e", X, Y), row("u", X)]
        body = [row("u", B), row("e", A, B), row("e", B, C)]
        self.assertEqual(
            [filled(body, fit) for fit in fits(stand, body)],
            [[row("u", X), row("e", blank(0), X), row("e", X, Y)]],
        )


class Answers(unittest.TestCase):
    def setUp(self):
        self.stand = [
            row("e", blank(9), X), row("e", blank(10), W), row("e", W, X), row("e", W, Y), row("e", X, Y),
        ]

    def test_in_order_each_once(self):
        self.assertEqual(
            answers(self.stand, (["A"], [row("e", A, B)])), [(blank(9),), (blank(10),), (W,), (X,)],
        )
        self.assertEqual(answers(self.stand, (["B"], [row("e", A, B)])), [(W,), (X,), (Y,)])

    def test_each_once_where_many_fits_agree(self):
        body = [row("e", A, B), row("e", B, C)]
        self.assertEqual(answers(self.stand, (["C"], body)), [(X,), (Y,)])
        self.assertEqual(answers(self.stand, (["A", "C"], body)), [
            (blank(9), Y), (blank(10), X), (blank(10), Y), (W, Y),
        ])

    def test_a_letter_twice(self):
        self.assertEqual(
            answers(self.stand, (["B", "A", "B"], [row("e", A, B), row("e", X, B)])), [(Y, W, Y), (Y, X, Y)],
        )

    def test_letters_in_another_order_than_the_alphabet(self):
        self.assertEqual(answers(self.stand, (["B", "A"], [row("e", A, B)])), [
            (W, blank(10)), (X, blank(9)), (X, W), (Y, W), (Y, X),
        ])

    def test_no_letters_with_a_fit(self):
        self.assertEqual(answers(self.stand, ([], [row("e", A, B)])), [()])
        self.assertEqual(answers(self.stand, ([], [row("e", W, X)])), [()])

    def test_no_letters_without_a_fit(self):
        self.assertEqual(answers(self.stand, ([], [row("e", A, A)])), [])
        self.assertEqual(answers([], ([], [row("e", A, B)])), [])

    def test_letters_without_a_fit(self):
        self.assertEqual(answers(self.stand, (["A", "A"], [row("e", A, A)])), [])

    def test_the_body_of_none(self):
        self.assertEqual(answers(self.stand, ([], [])), [()])
        self.assertEqual(answers([], ([], [])), [()])

    def test_eight_letters(self):
        self.assertEqual(answers([row("e", X, Y)], (list("ABBAABAB"), [row("e", A, B)])), [(X, Y, Y, X, X, Y, X, Y)])

    def test_few_letters_of_a_body_with_very_many_fits(self):
        stand = stand_of([row("u", blank(number)) for number in range(60)])
        body = [row("u", A), row("u", B), row("u", C), row("u", D)]
        self.assertEqual(answers(stand, (["C"], body)), [(blank(number),) for number in range(60)])
        self.assertEqual(answers(stand, ([], body)), [()])


class AgainstTheWords(unittest.TestCase):
    """Fits and answers as the document words them: each cell tried for each unknown."""

    def any_stand(self, chance):
        return some_stand(chance, chance.randint(0, 30), [blank(9), blank(10), X, Y, W])

    def any_body(self, chance):
        terms = [A, B, C, Z, X]
        return [
            (chance.choice("eeeeeeeffg"), tuple(chance.choices(terms, k=chance.choice([1, 2, 2, 2, 3]))))
            for count in range(chance.randint(0, 4))
        ]

    def test_many_stands_and_bodies(self):
        chance = random.Random(1)
        some = 0
        for count in range(3000):
            stand, body = self.any_stand(chance), self.any_body(chance)
            told = plain_fits(stand, body)
            some += len(told) > 1
            with self.subTest(stand=stand, body=body):
                self.assertEqual(fits(stand, body), told)
                self.assertEqual([filled(body, fit) for fit in told], [plain_filled(body, fit) for fit in told])
                self.check_answers(chance, stand, body, told)
        self.assertGreater(some, 300)

    def check_answers(self, chance, stand, body, told):
        letters = plain_letters(body)
        asked = chance.choices(letters, k=chance.randint(0, 5)) if letters else []
        self.assertEqual(
            answers(stand, (asked, body)),
            sorted({tuple(dict(fit)[letter] for letter in asked) for fit in told}),
        )


if __name__ == "__main__":
    unittest.main()
