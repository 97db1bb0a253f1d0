"""Nothing handed in is changed, and what is told is the asker's own: [2]."""

import copy
import unittest

from mustrows.fits import answers, filled, fits
from mustrows.stands import blanks_of, moved, stand_of

X, Y = ("name", "x"), ("name", "y")
A, B = ("any", "A"), ("any", "B")
STAND = [("e", (("blank", 1), X)), ("e", (X, Y)), ("u", (X,))]
LOOSE = [STAND[2], STAND[0], STAND[2], STAND[1]]
BODY = [("u", (A,)), ("e", (A, B))]

CALLS = [
    (stand_of, (LOOSE,)),
    (stand_of, (STAND,)),
    (stand_of, ([],)),
    (blanks_of, (STAND,)),
    (blanks_of, ([],)),
    (moved, (STAND, [(1, Y), (5, X)])),
    (moved, (STAND, [])),
    (moved, ([], [])),
    (fits, (STAND, BODY)),
    (fits, (STAND, [])),
    (fits, (STAND, [("e", (A, A))])),
    (filled, (BODY, [("A", X), ("B", Y)])),
    (filled, ([], [])),
    (answers, (STAND, (["B", "A", "B"], BODY))),
    (answers, (STAND, ([], []))),
    (answers, (STAND, (["A"], [("e", (A, A))]))),
]


def lists_in(value):
    found = [value] if isinstance(value, list) else []
    if isinstance(value, (list, tuple)):
        for part in value:
            found.extend(lists_in(part))
    return found


class HandedIn(unittest.TestCase):
    def setUp(self):
        # Each by itself: no two calls share a list.
        self.calls = [(ask, copy.deepcopy(given)) for ask, given in CALLS]

    def test_what_is_handed_in_is_as_it_was(self):
        for (ask, given), (same, untouched) in zip(self.calls, CALLS):
            with self.subTest(ask=ask.__name__, given=given):
                ask(*given)
                self.assertEqual(given, untouched)

    def test_no_told_list_is_one_that_was_handed_in(self):
        for ask, given in self.calls:
            with self.subTest(ask=ask.__name__, given=given):
                handed = [id(part) for part in lists_in(given)]
                for part in lists_in(ask(*given)):
                    self.assertNotIn(id(part), handed)

    def test_no_list_is_told_twice(self):
        for ask, given in self.calls:
            with self.subTest(ask=ask.__name__, given=given):
                told = lists_in(ask(*given)) + lists_in(ask(*given))
                self.assertEqual(len({id(part) for part in told}), len(told))

    def test_changes_of_what_was_told_change_nothing_else(self):
        for (ask, given), (same, untouched) in zip(self.calls, CALLS):
            with self.subTest(ask=ask.__name__, given=given):
                first = ask(*given)
                kept = copy.deepcopy(first)
                for part in lists_in(first):
                    part.append("changed")
                self.assertEqual(given, untouched)
                self.assertEqual(ask(*given), kept)

    def test_changes_of_what_was_handed_in_change_nothing_told(self):
        for ask, given in self.calls:
            with self.subTest(ask=ask.__name__, given=given):
                told = ask(*given)
                kept = copy.deepcopy(told)
                for part in lists_in(given):
                    part.clear()
                self.assertEqual(told, kept)

    def test_lists_and_tuples_are_told_as_the_interface_says(self):
        for ask, given in self.calls:
            with self.subTest(ask=ask.__name__, given=given):
                told = ask(*given)
                self.assertIs(type(told), list)
                kind = {blanks_of: int, fits: list}.get(ask, tuple)
                for part in told:
                    self.assertIs(type(part), kind)


class GreatOnes(unittest.TestCase):
    """The bounds within which things are handed in."""

    def test_two_hundred_rows_and_blanks_below_a_million(self):
        rows = [("wwwwwwww", (("blank", 999999 - k), ("name", "zzzzzzzz"), X, Y)) for k in range(200)]
        stand = stand_of(rows)
        self.assertEqual(stand, rows[::-1])
        self.assertEqual(blanks_of(stand), list(range(999800, 1000000)))
        self.assertEqual(moved(stand, [(999800 + k, X) for k in range(200)]), [("wwwwwwww", (X, rows[0][1][1], X, Y))])

    def test_four_patterns_with_six_unknowns(self):
        stand = stand_of([("e", (("blank", k), ("blank", k + 1), ("blank", k + 2))) for k in range(60)])
        terms = [("any", letter) for letter in "ABCDEF"]
        body = [("e", tuple(terms[k:k + 3])) for k in range(4)]
        told = fits(stand, body)
        self.assertEqual(told, [
            [(letter, ("blank", k + place)) for place, letter in enumerate("ABCDEF")] for k in range(57)
        ])
        self.assertEqual(filled(body, told[0]), stand[:4])


if __name__ == "__main__":
    unittest.main()
