"""Stands, their blanks, and stands moved by moves: [4] and [5]."""

import itertools
import unittest

from mustrows.stands import blanks_of, moved, stand_of
from things import blank, name, row


class StandOf(unittest.TestCase):
    def test_rows_in_any_order_and_some_twice(self):
        stand = [row("has", blank(1), name("a")), row("has", name("a"), name("b")), row("is", name("a"))]
        for order in itertools.permutations(stand + [stand[1]]):
            self.assertEqual(stand_of(list(order)), stand)

    def test_rows_that_are_alike_but_other_objects_stand_once(self):
        one = row("has", name("a"), blank(2))
        other = tuple(["has", tuple([tuple(["name", "a"]), tuple(["blank", 2])])])
        self.assertEqual(stand_of([one, other]), [one])

    def test_tables_by_their_names_ahead_of_the_cells(self):
        rows = [row("b", blank(0)), row("aa", name("z")), row("a", name("z"))]
        self.assertEqual(stand_of(rows), [rows[2], rows[1], rows[0]])

    def test_blanks_ahead_of_names(self):
        rows = [row("is", name("a")), row("is", blank(999999)), row("is", blank(0))]
        self.assertEqual(stand_of(rows), [rows[2], rows[1], rows[0]])

    def test_blanks_by_their_numbers_not_their_signs(self):
        rows = [row("is", blank(10)), row("is", blank(100)), row("is", blank(9))]
        self.assertEqual(stand_of(rows), [rows[2], rows[0], rows[1]])

    def test_names_by_their_signs(self):
        rows = [row("is", name("b")), row("is", name("ab")), row("is", name("a"))]
        self.assertEqual(stand_of(rows), [rows[2], rows[1], rows[0]])

    def test_the_beginning_of_another_row_is_ahead_of_it(self):
        short = row("has", name("a"))
        longer = row("has", name("a"), blank(0))
        longest = row("has", name("a"), blank(0), blank(0))
        lesser = row("has", blank(7), name("z"), name("z"), name("z"))
        self.assertEqual(stand_of([longest, longer, short, lesser]), [lesser, short, longer, longest])

    def test_no_rows(self):
        self.assertEqual(stand_of([]), [])

    def test_a_stand_comes_back_as_it_is(self):
        stand = [row("a", blank(9)), row("a", blank(10)), row("a", name("a")), row("b", name("a"), name("a"))]
        self.assertEqual(stand_of(stand), stand)
        self.assertIsNot(stand_of(stand), stand)


class BlanksOf(unittest.TestCase):
    def test_rising_each_once(self):
        stand = stand_of([
            row("b", blank(10), name("x"), blank(9)), row("a", blank(100)), row("b", blank(9), blank(0)),
        ])
        self.assertEqual(blanks_of(stand), [0, 9, 10, 100])

    def test_a_blank_twice_in_one_row(self):
        self.assertEqual(blanks_of([row("a", blank(3), blank(3))]), [3])

    def test_names_alone_have_none(self):
        self.assertEqual(blanks_of([row("a", name("x")), row("b", name("y"), name("x"))]), [])

    def test_no_rows_have_none(self):
        self.assertEqual(blanks_of([]), [])


class Moved(unittest.TestCase):
    def test_to_names_and_put_in_order(self):
        stand = [row("a", blank(0)), row("a", blank(1)), row("a", name("m"))]
        self.assertEqual(
            moved(stand, [(0, name("z")), (1, name("b"))]),
            [row("a", name("b")), row("a", name("m")), row("a", name("z"))],
        )

    def test_to_other_blanks(self):
        stand = [row("a", blank(1), blank(2))]
        self.assertEqual(moved(stand, [(1, blank(12)), (2, blank(7))]), [row("a", blank(12), blank(7))])

    def test_two_blanks_exchanged_for_one_another(self):
        stand = [row("a", blank(1), name("x")), row("a", blank(2), name("y"))]
        self.assertEqual(
            moved(stand, [(1, blank(2)), (2, blank(1))]),
            [row("a", blank(1), name("y")), row("a", blank(2), name("x"))],
        )

    def test_a_chain_of_moves_is_done_all_at_once(self):
        stand = [row("a", blank(0), blank(1), blank(2))]
        chain = [(0, blank(1)), (1, blank(2)), (2, name("x"))]
        self.assertEqual(moved(stand, chain), [row("a", blank(1), blank(2), name("x"))])
        back = [(0, name("x")), (1, blank(0)), (2, blank(1))]
        self.assertEqual(moved(stand, back), [row("a", name("x"), blank(0), blank(1))])

    def test_blanks_that_are_not_told_stay(self):
        stand = [row("a", blank(0), blank(1)), row("b", blank(1))]
        self.assertEqual(
            moved(stand, [(0, blank(1))]),
            [row("a", blank(1), blank(1)), row("b", blank(1))],
        )

    def test_a_blank_is_exchanged_wherever_it_stands(self):
        stand = [row("a", blank(4), blank(4)), row("b", name("x"), blank(4))]
        self.assertEqual(
            moved(stand, [(4, name("q"))]),
            [row("a", name("q"), name("q")), row("b", name("x"), name("q"))],
        )

    def test_numbers_that_no_blank_has(self):
        stand = [row("a", blank(1)), row("a", name("x"))]
        self.assertEqual(moved(stand, [(0, name("y")), (2, blank(1)), (11, name("x"))]), stand)

    def test_no_moves(self):
        stand = [row("a", blank(1)), row("a", name("x"))]
        self.assertEqual(moved(stand, []), stand)
        self.assertIsNot(moved(stand, []), stand)

    def test_no_rows(self):
        self.assertEqual(moved([], [(0, name("a"))]), [])

    def test_rows_that_become_alike_stand_once(self):
        stand = [row("a", blank(0)), row("a", blank(1)), row("a", name("x"))]
        self.assertEqual(moved(stand, [(0, name("x")), (1, name("x"))]), [row("a", name("x"))])
        self.assertEqual(moved(stand, [(0, blank(1))]), [row("a", blank(1)), row("a", name("x"))])

    def test_names_stay(self):
        stand = [row("a", name("x")), row("blank", name("blank"))]
        self.assertEqual(moved(stand, [(0, name("y"))]), stand)


if __name__ == "__main__":
    unittest.main()
