"""The least part of a stand: [10]."""

import random
import unittest

from mustrows.cores import least_part
from mustrows.maps import led, renamed
from mustrows.stands import stand_of
from things import (
    W, X, Y, blank, both_ways, clique, edges, plain_blanks, plain_led, plain_moved, ring, row, some_stand,
)


class LeastPart(unittest.TestCase):
    def check_least(self, stand, is_led):
        told = least_part(stand)
        self.assertIs(type(told), tuple)
        self.assertEqual([type(part) for part in told], [list, list])
        part, moves = told
        self.assertEqual([type(move) for move in moves], [tuple] * len(moves))
        self.assertEqual(part, stand_of(part))
        self.assertLessEqual(set(part), set(stand))
        self.assertEqual([number for number, cell in moves], plain_blanks(stand))
        for number in plain_blanks(part):
            self.assertEqual(dict(moves)[number], blank(number))
        self.assertEqual(plain_moved(stand, dict(moves)), set(part))
        for line in part:
            self.assertFalse(is_led(part, [kept for kept in part if kept != line]))
        return told

    def check_small(self, stand):
        return self.check_least(stand, plain_led)

    def check_great(self, stand, count):
        told = self.check_least(stand, lambda one, other: led(one, other) != ("never",))
        self.assertEqual(len(told[0]), count)
        return told

    def check_stays(self, stand):
        told = least_part(stand)
        self.assertEqual(told, (stand, [(number, blank(number)) for number in plain_blanks(stand)]))
        self.assertIsNot(told[0], stand)

    def test_a_row_that_another_one_says_better(self):
        stand = [row("e", blank(0), X), row("e", Y, X)]
        self.assertEqual(self.check_small(stand), ([row("e", Y, X)], [(0, Y)]))

    def test_a_row_that_is_told_twice(self):
        part, moves = self.check_small([row("e", X, blank(3)), row("e", X, blank(8))])
        self.assertEqual(len(part), 1)

    def test_rows_of_which_none_can_go(self):
        for stand in (
            [row("e", X, Y)],
            [row("e", blank(0), X), row("e", blank(1), Y)],
            [row("e", blank(0), blank(0)), row("f", blank(1))],
            [row("e", blank(0)), row("f", blank(0))],
            [row("e", blank(0)), row("e", blank(0), blank(1))],
            [row("e", blank(0), blank(1)), row("e", blank(1), blank(2))],
            ring(5),
        ):
            with self.subTest(stand=stand):
                self.check_small(stand)
                self.check_stays(stand)

    def test_rows_of_names_stay(self):
        stand = [row("e", W), row("e", X), row("e", Y)]
        self.check_stays(stand)
        self.assertEqual(self.check_small([row("e", blank(0))] + stand)[0], stand)

    def test_no_rows(self):
        self.assertEqual(least_part([]), ([], []))

    def test_a_blank_that_stands_for_another_one(self):
        stand = [row("e", blank(0), blank(1)), row("e", blank(2), blank(2))]
        self.assertEqual(self.check_small(stand), (stand[1:], [(0, blank(2)), (1, blank(2)), (2, blank(2))]))

    def test_a_chain_that_folds_step_by_step(self):
        stand = edges([(0, 1), (1, 2), (2, 3), (3, 3)])
        self.assertEqual(self.check_small(stand), (edges([(3, 3)]), [(k, blank(3)) for k in range(4)]))

    def test_what_is_kept_stays_as_it_is_where_it_could_turn(self):
        for stand in (
            stand_of(ring(3) + ring(3, 10)),
            stand_of(ring(3) + edges([(5, 0), (6, 1), (6, 5)])),
            stand_of(ring(4) + [row("u", blank(9))]),
            both_ways([(0, 1), (1, 2), (2, 3), (3, 0)]),
        ):
            with self.subTest(stand=stand):
                self.check_small(stand)

    def test_a_part_that_must_turn_to_be_left_out(self):
        stand = stand_of(ring(3) + [row("u", blank(0)), row("e", blank(5), blank(6)), row("e", blank(6), blank(7)),
                                    row("e", blank(7), blank(5))])
        self.assertEqual(self.check_small(stand)[0], stand_of(ring(3) + [row("u", blank(0))]))

    def test_rings_and_grids(self):
        self.check_great(ring(40), 40)
        self.check_great(both_ways([(k, (k + 1) % 29) for k in range(29)]), 58)
        self.check_great(both_ways([(k, (k + 1) % 30) for k in range(30)]), 2)
        self.check_great(both_ways(
            [(6 * a + b, 6 * a + b + 1) for a in range(4) for b in range(5)]
            + [(6 * a + b, 6 * a + b + 6) for a in range(3) for b in range(6)]
        ), 2)
        self.check_great(stand_of(ring(6) + ring(3, 10) + ring(12, 20)), 3)
        self.check_great(stand_of(ring(6) + ring(4, 10) + ring(12, 20)), 10)

    def test_stands_in_which_much_is_alike(self):
        self.check_great(clique(8), 56)
        self.check_great([row("u", blank(k)) for k in range(40)], 1)
        self.check_great([row("u", blank(k)) for k in range(40)] + [row("u", X)], 1)
        self.check_great(edges([(0, k) for k in range(1, 40)]), 1)
        self.check_great(both_ways([(k, 10 + j) for k in range(5) for j in range(6)]), 2)

    def test_two_hundred_rows(self):
        self.check_great([row("u", blank(k)) for k in range(200)], 1)
        self.check_great(edges([(k, k + 1) for k in range(199)] + [(k, k) for k in (70, 199)]), 1)

    def test_the_least_part_is_its_own_least_part(self):
        part, moves = least_part(stand_of(ring(6) + ring(3, 10) + ring(12, 20)))
        self.check_stays(part)

    def test_the_same_but_for_the_blanks_however_they_are_numbered(self):
        chance = random.Random(6)
        for turn in range(60):
            pairs = [chance.choices(range(9), k=2) for count in range(9)]
            turned = [(8 - one, 8 - other) for one, other in pairs]
            self.assertEqual(renamed(least_part(edges(pairs))[0], least_part(edges(turned))[0])[0], "same")

    def test_against_the_words(self):
        chance = random.Random(7)
        cells = [blank(number) for number in range(4)] + [X]
        lesser = 0
        for turn in range(500):
            stand = some_stand(chance, chance.randint(1, 6), cells, "ee", (2, 2, 2, 1))
            with self.subTest(stand=stand):
                part, moves = self.check_small(stand)
                lesser += len(part) < len(stand)
        self.assertGreater(lesser, 150)


if __name__ == "__main__":
    unittest.main()
