"""Nothing handed in is changed, and what is told is the asker's own: [2]."""

import copy
import unittest

from mustrows.cores import least_part
from mustrows.desk import Desk
from mustrows.fits import answers, filled, fits
from mustrows.fulls import full
from mustrows.maps import led, renamed
from mustrows.places import ranks
from mustrows.rules import broken, fresh, keeps
from mustrows.stands import blanks_of, moved, stand_of
from mustrows.sures import sure
from mustrows.texts import read_question, read_row, read_rule, show_question, show_row, show_rule
from things import A, B, C, X, Y, blank, row

STAND = [("e", (("blank", 1), X)), ("e", (X, Y)), ("u", (X,))]
LOOSE = [STAND[2], STAND[0], STAND[2], STAND[1]]
BODY = [("u", (A,)), ("e", (A, B))]
CHAIN = [row("e", blank(0), blank(1)), row("e", blank(1), blank(2)), row("e", X, X)]
ON = ("must", [row("e", A, B)], [row("e", B, C), row("u", C)])
NAMED = ("must", [row("u", A)], [row("v", A), row("v", X)])
ONE_EACH = ("same", [row("e", A, B), row("e", A, C)], B, C)

CALLS = [
    (stand_of, (LOOSE,)),
    (stand_of, (STAND,)),
    (stand_of, ([],)),
    (blanks_of, (STAND,)),
    (blanks_of, ([],)),
    (moved, (STAND, [(1, Y), (5, X)])),
    (moved, (STAND, [])),
    (moved, ([], [])),
    (fits, (STAND, BODY)),
    (fits, (STAND, [])),
    (fits, (STAND, [("e", (A, A))])),
    (filled, (BODY, [("A", X), ("B", Y)])),
    (filled, ([], [])),
    (answers, (STAND, (["B", "A", "B"], BODY))),
    (answers, (STAND, ([], []))),
    (answers, (STAND, (["A"], [("e", (A, A))]))),
    (led, (CHAIN, STAND + [row("w", X)])),
    (led, (CHAIN, CHAIN)),
    (led, ([], STAND)),
    (led, (STAND, CHAIN)),
    (renamed, (CHAIN, [row("e", blank(7), blank(3)), row("e", blank(9), blank(7)), row("e", X, X)])),
    (renamed, ([], [])),
    (renamed, (CHAIN, STAND)),
    (least_part, (CHAIN,)),
    (least_part, (STAND,)),
    (least_part, ([],)),
    (fresh, (ON,)),
    (fresh, (NAMED,)),
    (broken, (CHAIN, ON)),
    (broken, (STAND, ONE_EACH)),
    (broken, (STAND, ("must", [row("u", X)], [row("v", B)]))),
    (keeps, (CHAIN, [ON, ONE_EACH])),
    (full, (STAND, [ON, NAMED, ONE_EACH], 6)),
    (full, (STAND, [NAMED, ONE_EACH], 6)),
    (full, (STAND, [], 0)),
    (full, (STAND, [ON], 0)),
    (full, (STAND, [("same", [row("e", A, B)], A, B)], 6)),
    (full, (STAND, [("same", [row("u", A)], X, Y)], 6)),
    (ranks, ([NAMED, ONE_EACH],)),
    (ranks, ([("must", [row("u", A)], [row("e", A, B)]), NAMED],)),
    (ranks, ([NAMED, ON, ("must", [row("u", A)], [row("u", B), row("e", B, A)])],)),
    (ranks, ([],)),
    (sure, (STAND, [NAMED, ON], (["B", "A", "B"], BODY), 3)),
    (sure, (STAND, [NAMED, ONE_EACH], (["A"], [row("e", A, B)]), 6)),
    (sure, (STAND, [], ([], []), 0)),
    (sure, (STAND, [("same", [row("u", A)], X, Y)], (["A"], BODY), 6)),
    (show_row, (STAND[0],)),
    (show_rule, (ON,)),
    (show_rule, (ONE_EACH,)),
    (show_question, ((["B", "A", "B"], BODY),)),
    (show_question, (([], BODY),)),
    (read_row, ("e ?1 x",)),
    (read_rule, ("e A B => e B C, u C",)),
    (read_rule, ("e A B, e A C => B = C",)),
    (read_question, ("B A B: u A, e A B",)),
    (read_question, (": u A",)),
]
KINDS = {
    led: tuple, renamed: tuple, least_part: tuple, keeps: bool, full: tuple, ranks: tuple, sure: tuple, show_row: str,
    show_rule: str, show_question: str, read_row: tuple, read_rule: tuple, read_question: tuple,
}
PARTS = {blanks_of: int, fits: list, broken: list, fresh: str}


def lists_in(value):
    found = [value] if isinstance(value, list) else []
    if isinstance(value, (list, tuple)):
        for part in value:
            found.extend(lists_in(part))
    return found


class HandedIn(unittest.TestCase):
    def setUp(self):
        # Each by itself: no two calls share a list.
        self.calls = [(ask, copy.deepcopy(given)) for ask, given in CALLS]

    def test_what_is_handed_in_is_as_it_was(self):
        for (ask, given), (same, untouched) in zip(self.calls, CALLS):
            with self.subTest(ask=ask.__name__, given=given):
                ask(*given)
                self.assertEqual(given, untouched)

    def test_no_told_list_is_one_that_was_handed_in(self):
        for ask, given in self.calls:
            with self.subTest(ask=ask.__name__, given=given):
                handed = [id(part) for part in lists_in(given)]
                for part in lists_in(ask(*given)):
                    self.assertNotIn(id(part), handed)

    def test_no_list_is_told_twice(self):
        for ask, given in self.calls:
            with self.subTest(ask=ask.__name__, given=given):
                told = lists_in(ask(*given)) + lists_in(ask(*given))
                self.assertEqual(len({id(part) for part in told}), len(told))

    def test_changes_of_what_was_told_change_nothing_else(self):
        for (ask, given), (same, untouched) in zip(self.calls, CALLS):
            with self.subTest(ask=ask.__name__, given=given):
                first = ask(*given)
                kept = copy.deepcopy(first)
                for part in lists_in(first):
                    part.append("changed")
                self.assertEqual(given, untouched)
                self.assertEqual(ask(*given), kept)

    def test_changes_of_what_was_handed_in_change_nothing_told(self):
        for ask, given in self.calls:
            with self.subTest(ask=ask.__name__, given=given):
                told = ask(*given)
                kept = copy.deepcopy(told)
                for part in lists_in(given):
                    part.clear()
                self.assertEqual(told, kept)

    def test_lists_and_tuples_are_told_as_the_interface_says(self):
        for ask, given in self.calls:
            with self.subTest(ask=ask.__name__, given=given):
                told = ask(*given)
                self.assertIs(type(told), KINDS.get(ask, list))
                for part in told if isinstance(told, list) else []:
                    self.assertIs(type(part), PARTS.get(ask, tuple))


class Interface(unittest.TestCase):
    """The names and arguments that everything is asked by."""

    def test_names_of_arguments(self):
        for words in (
            "stand_of rows", "blanks_of rows", "moved rows moves", "fits rows body", "filled patterns fit",
            "answers rows question", "led one other", "renamed one other", "least_part rows", "fresh rule",
            "broken rows rule", "keeps rows rules", "full rows rules most", "ranks rules",
            "sure rows rules question most", "show_row row", "show_rule rule", "show_question question",
            "read_row text", "read_rule text", "read_question text",
        ):
            word, *arguments = words.split()
            with self.subTest(word=word):
                calls = [(ask, given) for ask, given in CALLS if ask.__name__ == word]
                self.assertGreater(len(calls), 0)
                for ask, given in calls:
                    self.assertEqual(ask(**dict(zip(arguments, given, strict=True))), ask(*given))

    def test_desk(self):
        self.assertEqual(Desk().say(row="show"), "")


class GreatOnes(unittest.TestCase):
    """The bounds within which things are handed in."""

    def test_two_hundred_rows_and_blanks_below_a_million(self):
        rows = [("wwwwwwww", (("blank", 999999 - k), ("name", "zzzzzzzz"), X, Y)) for k in range(200)]
        stand = stand_of(rows)
        self.assertEqual(stand, rows[::-1])
        self.assertEqual(blanks_of(stand), list(range(999800, 1000000)))
        self.assertEqual(moved(stand, [(999800 + k, X) for k in range(200)]), [("wwwwwwww", (X, rows[0][1][1], X, Y))])

    def test_four_patterns_with_six_unknowns(self):
        stand = stand_of([("e", (("blank", k), ("blank", k + 1), ("blank", k + 2))) for k in range(60)])
        terms = [("any", letter) for letter in "ABCDEF"]
        body = [("e", tuple(terms[k:k + 3])) for k in range(4)]
        told = fits(stand, body)
        self.assertEqual(told, [
            [(letter, ("blank", k + place)) for place, letter in enumerate("ABCDEF")] for k in range(57)
        ])
        self.assertEqual(filled(body, told[0]), stand[:4])

    def test_somewhat_more_than_the_bounds(self):
        letters = [("any", letter) for letter in "ABCDEFGH"]
        chain = stand_of([row("e", blank(k), blank(k + 1)) for k in range(70)])
        body = [row("e", one, other) for one, other in zip(letters[:5], letters[1:6])]
        rule = ("must", body, [row("f", *letters[:6]), row("g", *letters[5:])])
        self.assertEqual(len(broken(chain, rule)), 66)
        told = full(chain, [rule] * 9, 45)
        self.assertEqual((told[0], len(told[2])), ("open", 45))
        self.assertEqual(len(least_part(chain)[0]), 70)
        self.assertEqual(led(chain, told[1])[0], "led")
        self.assertEqual(renamed(told[1], moved(told[1], [(0, blank(1)), (1, blank(0))]))[0], "same")
        self.assertEqual(ranks([rule] * 9)[0], "ranks")
        question = (list("FEDCBAABC"), body)
        self.assertEqual(sure(chain, [rule] * 9, question, 45), ("open", []))
        self.assertEqual(show_question(question)[:22], "F E D C B A A B C: e A")


if __name__ == "__main__":
    unittest.main()
