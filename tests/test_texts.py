"""Rows, rules and questions as texts: [18]."""

import random
import re
import unittest

from mustrows.errors import NoText
from mustrows.texts import read_question, read_row, read_rule, show_question, show_row, show_rule
from things import A, B, C, D, W, X, Y, Z, blank, name, plain_letters, row, unknown

NAME = "[a-z]{1,8}"
CELL = f"(?:{NAME}|[?](?:0|[1-9][0-9]{{0,8}}))"
TERM = f"(?:{NAME}|[A-Z])"
ROW = f"{NAME}(?: {CELL}){{1,4}}"
PATTERN = f"{NAME}(?: {TERM}){{1,4}}"
PATTERNS = f"{PATTERN}(?:, {PATTERN}){{0,3}}"


def tells_row(text):
    return bool(re.fullmatch(ROW, text))


def tells_rule(text):
    if re.fullmatch(f"{PATTERNS} => {PATTERNS}", text):
        return True
    if not re.fullmatch(f"{PATTERNS} => {TERM} = {TERM}", text):
        return False
    body, terms = text.split(" => ")
    return set(re.findall("[A-Z]", terms)) <= set(re.findall("[A-Z]", body))


def tells_question(text):
    if not re.fullmatch(f"(?:[A-Z](?: [A-Z]){{0,7}})?: {PATTERNS}", text):
        return False
    letters, body = text.split(": ")
    return set(letters.replace(" ", "")) <= set(body)


READERS = ((read_row, tells_row, show_row), (read_rule, tells_rule, show_rule),
           (read_question, tells_question, show_question))
NO_TEXTS = (
    None, True, False, 0, 7, 1.5, b"has a", [], ["has", "a"], ["has a"], {}, (), ("has", (name("a"),)), ("has", "a"),
    [("has", (A,))], object(), str,
)


def some_name(chance):
    return "".join(chance.choices("abcmyz", k=chance.choice((1, 1, 2, 3, 8))))


def some_row(chance):
    numbers = (0, 1, 9, 10, 99, 100, 909, 999999, 123456789, 999999999)
    cells = [name(some_name(chance)), blank(chance.choice(numbers)), blank(chance.choice(numbers))]
    return row(some_name(chance), *chance.choices(cells, k=chance.randint(1, 4)))


def some_patterns(chance):
    terms = [A, B, C, D, Z, unknown("M"), name(some_name(chance))]
    return [
        row(some_name(chance), *chance.choices(terms, k=chance.randint(1, 4)))
        for count in range(chance.choice((1, 1, 2, 4)))
    ]


def some_rule(chance):
    body = some_patterns(chance)
    if chance.random() < 0.5:
        return ("must", body, some_patterns(chance))
    terms = [unknown(letter) for letter in plain_letters(body)] + [name(some_name(chance))]
    return ("same", body, chance.choice(terms), chance.choice(terms))


def some_question(chance):
    body = some_patterns(chance)
    letters = plain_letters(body)
    return (chance.choices(letters, k=chance.choice((0, 1, 2, 8))) if letters else [], body)


class Shown(unittest.TestCase):
    def test_rows(self):
        for text, line in (
            ("has ann ?0", row("has", name("ann"), blank(0))),
            ("a b", row("a", name("b"))),
            ("tabletab ?7 ?10 ?999999 zzzzzzzz", row("tabletab", blank(7), blank(10), blank(999999), name("zzzzzzzz"))),
            ("has has has", row("has", name("has"), name("has"))),
            ("u ?999999999", row("u", blank(999999999))),
        ):
            with self.subTest(text=text):
                self.assertEqual(show_row(line), text)
                self.assertEqual(read_row(text), line)

    def test_must_rules(self):
        for text, rule in (
            ("has A B => has B A", ("must", [row("has", A, B)], [row("has", B, A)])),
            ("u A => e A Z, e Z ann, u Z", ("must", [row("u", A)], [
                row("e", A, Z), row("e", Z, name("ann")), row("u", Z)])),
            ("u x, v x, u y, v y => u w", ("must", [
                row("u", X), row("v", X), row("u", Y), row("v", Y)], [row("u", W)])),
            ("t A B C D => t D C B A, a Z, b Z, c Z", ("must", [row("t", A, B, C, D)], [
                row("t", D, C, B, A), row("a", Z), row("b", Z), row("c", Z)])),
            ("same A => must A", ("must", [row("same", A)], [row("must", A)])),
        ):
            with self.subTest(text=text):
                self.assertEqual(show_rule(rule), text)
                self.assertEqual(read_rule(text), rule)

    def test_same_rules(self):
        for text, rule in (
            ("has A B, has A C => B = C", ("same", [row("has", A, B), row("has", A, C)], B, C)),
            ("u A => A = x", ("same", [row("u", A)], A, X)),
            ("u A => x = A", ("same", [row("u", A)], X, A)),
            ("u A => A = A", ("same", [row("u", A)], A, A)),
            ("u A => x = y", ("same", [row("u", A)], X, Y)),
            ("u w => abcdefgh = x", ("same", [row("u", W)], name("abcdefgh"), X)),
            ("a A, b B, c C, d D => D = A", ("same", [row("a", A), row("b", B), row("c", C), row("d", D)], D, A)),
        ):
            with self.subTest(text=text):
                self.assertEqual(show_rule(rule), text)
                self.assertEqual(read_rule(text), rule)

    def test_questions(self):
        for text, question in (
            ("A B: has A B", (["A", "B"], [row("has", A, B)])),
            (": has A B", ([], [row("has", A, B)])),
            (": u x", ([], [row("u", X)])),
            ("B A B: has A B, u x", (["B", "A", "B"], [row("has", A, B), row("u", X)])),
            ("A A A A A A A A: u A", (["A"] * 8, [row("u", A)])),
            ("Z: a A, b B, c C, d Z", (["Z"], [row("a", A), row("b", B), row("c", C), row("d", Z)])),
        ):
            with self.subTest(text=text):
                self.assertEqual(show_question(question), text)
                self.assertEqual(read_question(text), question)

    def test_kinds(self):
        self.assert_kinds(read_row("u x ?1"), (str, (tuple, tuple)))
        self.assertIs(type(read_row("u ?1")[1][0][1]), int)
        self.assertEqual([type(part) for part in read_rule("u A => v A")], [str, list, list])
        self.assertEqual([type(part) for part in read_rule("u A => A = x")], [str, list, tuple, tuple])
        self.assertEqual([type(part) for part in read_question("A: u A")], [list, list])
        for told in (read_row("u x"), read_rule("u A => v A"), read_rule("u A => A = x"), read_question(": u A")):
            self.assertIs(type(told), tuple)
        for pattern in read_rule("u A => v A")[1] + read_rule("u A => v A")[2] + read_question("A: u A")[1]:
            self.assert_kinds(pattern, (str, (tuple,)))

    def assert_kinds(self, line, kinds):
        self.assertIs(type(line), tuple)
        self.assertIs(type(line[0]), kinds[0])
        self.assertIs(type(line[1]), tuple)
        self.assertEqual(tuple(type(cell) for cell in line[1]), kinds[1])

    def test_shown_and_read_back_to_the_same(self):
        chance = random.Random(40)
        for turn in range(400):
            for make, (read, tells, show) in zip((some_row, some_rule, some_question), READERS):
                thing = make(chance)
                text = show(thing)
                with self.subTest(text=text):
                    self.assertIs(type(text), str)
                    self.assertTrue(tells(text))
                    self.assertEqual(read(text), thing)
                    self.assertEqual(show(read(text)), text)

    def test_more_unknowns_than_six_are_no_fault_of_a_text(self):
        self.assertEqual(len(plain_letters(read_rule("t A B C D, t E F G H => u A")[1])), 8)
        self.assertEqual(read_question("H: t A B C D, t E F G H")[0], ["H"])


class Refused(unittest.TestCase):
    def check_refused(self, read, texts):
        for text in texts:
            with self.subTest(read=read.__name__, text=text):
                with self.assertRaises(NoText):
                    read(text)

    def test_what_is_no_text(self):
        for read, tells, show in READERS:
            self.check_refused(read, NO_TEXTS)

    def test_no_signs_and_signs_alone(self):
        for read, tells, show in READERS:
            self.check_refused(read, (
                "", " ", "  ", "\n", "\t", "?", ":", ": ", " : ", "=", " => ", "=>", ",", ", ", ";", ".",
            ))

    def test_rows(self):
        self.check_refused(read_row, (
            "has", "has ", " has a", "has a ", "has  a", "has a  b", "has\ta", "has a\n", "has a\tb", "has\na",
            "\nhas a", "has a b c d e", "a b c d e f", "abcdefghi a", "has abcdefghi", "has Ann", "Has ann", "has aNN",
            "HAS ann", "has A", "has a A", "A a", "?0 a", "?0", "has ?", "has ? 0", "has ?00", "has ?01", "has ?007",
            "has ?0000000000", "has ?1234567890", "has ?1000000000", "has ?-1", "has ?+1", "has ?1a", "has ?a",
            "has a?1", "has ??1", "has ?1?", "has ?1.0", "has ?1_0", "has ?0x1", "has 1", "has 0", "has a1", "h1s a",
            "has a-b", "has a_b", "has a,", "has, a", "has a, has b", "has a; has b", "has a;", "has 'a'", "has \"a\"",
            "has a.", "has(a)", "has=a", "has a:", ": has a", "has a => has a", "has a = a",
        ))

    def test_signs_beyond_those_of_texts(self):
        self.check_refused(read_row, (
            "has \u00e4", "h\u00e4s a", "has ?\u0661", "has ?\u00b2", "has\u00a0a", "has ?1\u0660",
        ))
        self.check_refused(read_rule, ("u \u00c4 => u \u00c4", "u A \u21d2 u A", "u \u0391 => u x"))
        self.check_refused(read_question, ("\u00c4: u \u00c4", "\u0391: u A"))

    def test_rules(self):
        self.check_refused(read_rule, (
            "u A", "u A =>", "u A => ", "=> u A", " => u A", "u A=>u A", "u A =>u A", "u A=> u A", "u A  => u A",
            "u A =>  u A", " u A => u A", "u A => u A ", "u A = > u A", "u A -> u A", "u A == u A", "u A => u",
            "u => u A", "u A => A", "u A => u A => u A", "u A => u A => A = A", "u A => A = A => u A",
            "u A => u A = u A", "u A => u A, A = A", "u A => A = A, u A", "u A => A = A = A", "u A => A =",
            "u A => A = ", "u A => = A", "u A =>  = A", "u A => A=A", "u A => A  = A", "u A => A =  A", "u A => A = A ",
            "u A => A == A", "A = A", "u A = A", "u A, => u A", ", u A => u A", "u A => u A,", "u A => , u A",
            "u A => u A, ", "u A,u A => u A", "u A ,u A => u A", "u A , u A => u A", "u A,  u A => u A",
            "u A; u A => u A", "u A, , u A => u A", "u A v A => u A,v A", "u A\n=> u A", "u A => u A\n",
            "u A => A = A\n", "u A\t=> u A", "u\tA => u A",
        ))

    def test_blanks_and_letters_in_rules(self):
        self.check_refused(read_rule, (
            "u ?0 => u A", "u A => u ?0", "u A => A = ?0", "u A => ?0 = A", "u A, e A ?7 => u A", "u a, u ? => u A",
            "U A => u A", "u A => U A", "u Ab => u A", "u AB => u A", "u A => u AB", "u aB => u A", "u A => A = Ab",
            "u A => AA = A", "u A1 => u A", "u 1 => u A", "u A => A = 1", "u A => Name = A",
        ))

    def test_sides_of_a_same_rule_that_are_not_in_the_body(self):
        self.check_refused(read_rule, (
            "u A => A = B", "u A => B = A", "u A => B = B", "u a => A = a", "u a => a = A", "e A B, e A C => B = D",
            "e A B, e A C => Z = x", "u x => X = x",
        ))

    def test_sizes_of_rules(self):
        self.check_refused(read_rule, (
            "abcdefghi A => u A", "u A => abcdefghi A", "u abcdefghi => u A", "u A => u abcdefghi",
            "u A => A = abcdefghi", "u A => abcdefghi = A", "u A B C D E => u A", "u A => u A B C D E",
            "u a a a a a => u A", "u A, u A, u A, u A, u A => u A", "u A => u A, u A, u A, u A, u A",
            "u A, u A, u A, u A, u A => A = A", "u => A = A", "u A, v => A = A",
        ))
        self.assertEqual(len(read_rule("u A, u A, u A, u A => u A, u A, u A, u A")[1]), 4)
        self.assertEqual(read_rule("abcdefgh A => A = abcdefgh")[3], name("abcdefgh"))

    def test_questions(self):
        self.check_refused(read_question, (
            "u A", "A u A", "A:u A", "A : u A", "A:  u A", " A: u A", "A: u A ", "A  A: u A", "A,A: u A", "A, A: u A",
            "AA: u A", "A ; u A", "A; u A", "A:: u A", "A: : u A", "A: A: u A", ":u A", " : u A", ":  u A", "A:", "A: ",
            "A B: ", ": ", ":", "a: u A", "u: u A", "x: u x", "?0: u A", "A: u ?0", ": u ?0", ": u A, u ?1", "B: u A",
            "A B: u A", "A: u a", "A: U A", "A: u AB", "A: u", "A: u,", "A: u A,", "A: u A,u A", "A: u A, u",
            "A: u A; u A", "A: u A => u A", "A: A = A", "A\n: u A", "A: u A\n", "A:\nu A", "A\tA: u A", "1: u A",
            "A=: u A", "A: u A:",
        ))

    def test_sizes_of_questions(self):
        self.check_refused(read_question, (
            "A A A A A A A A A: u A", "A: u A, u A, u A, u A, u A", "A: u A A A A A", "A: abcdefghi A",
            "A: u A abcdefghi", ": u a b c d e", ": u",
        ))
        self.assertEqual(read_question("A A A A A A A A: u A, u A, u A, u A")[0], ["A"] * 8)


class Exchanged(unittest.TestCase):
    """Texts with signs put in, taken out or exchanged: those that still tell something are read, the others refused."""

    SIGNS = "  ,:;=>?%-+_.'\"\n\t0019azAZBx"

    def changed(self, chance, text):
        place = chance.randint(0, len(text))
        sign = chance.choice(self.SIGNS)
        way = chance.randint(0, 5)
        if way == 0:
            return text[:place] + sign + text[place:]
        if way == 1:
            return text[:place] + text[place + 1:]
        if way == 2:
            return text[:place] + sign + text[place + 1:]
        if way == 3:
            return text.replace(" ", "  ", 1) if place % 2 else text + " "
        if way == 4:
            return text[:place] + text[place:place + 1] * 2 + text[place + 1:]
        return text[:place] + text[place + 1:place + 2] + text[place:place + 1] + text[place + 2:]

    def test_many_texts(self):
        chance = random.Random(41)
        for make, (read, tells, show) in zip((some_row, some_rule, some_question), READERS):
            count = {True: 0, False: 0}
            for turn in range(4000):
                text = show(make(chance))
                for change in range(chance.choice((1, 1, 2))):
                    text = self.changed(chance, text)
                told = tells(text)
                count[told] += 1
                with self.subTest(read=read.__name__, text=text):
                    if told:
                        self.assertEqual(show(read(text)), text)
                    else:
                        with self.assertRaises(NoText):
                            read(text)
            self.assertGreater(min(count.values()), 300)

    def test_texts_of_another_kind(self):
        chance = random.Random(42)
        for turn in range(200):
            for place, make in enumerate((some_row, some_rule, some_question)):
                text = READERS[place][2](make(chance))
                for other, (read, tells, show) in enumerate(READERS):
                    if other != place:
                        with self.assertRaises(NoText):
                            read(text)


if __name__ == "__main__":
    unittest.main()
