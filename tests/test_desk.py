"""A desk that is told rows of text and answers each: [19]."""

import copy
import random
import re
import unittest

from mustrows.desk import Desk
from mustrows.errors import NoRow, NoText
from mustrows.texts import read_question, read_row, read_rule
from test_texts import NO_TEXTS, tells_question, tells_row, tells_rule
from things import has_blank, little_homes, plain_answers, plain_broken, plain_led

# Behind each of these words something stands.
TAKING = ("put", "drop", "rule", "full", "ask", "sure")
# Asked of copies of a desk, these show whether two desks keep the same stand and the same rules.
PROBES = ("show", "full 40", "sure 40 A B: has A B", "sure 0 A: u A", "least")


def desk_of(*rows):
    desk = Desk()
    for text in rows:
        desk.say(text)
    return desk


def kept_by(desk):
    answers = [copy.deepcopy(desk).say(probe) for probe in PROBES]
    changed = copy.deepcopy(desk)
    changed.say("full 40")
    return answers + [changed.say("show")]


def shown(desk):
    text = desk.say("show")
    return [read_row(part) for part in text.split("; ")] if text else []


class Saying(unittest.TestCase):
    def check_said(self, desk, *pairs):
        for text, answer in pairs:
            with self.subTest(text=text):
                said = desk.say(text)
                self.assertIs(type(said), str)
                self.assertEqual(said, answer)

    def check_refused(self, desk, error, texts):
        before = kept_by(desk)
        for text in texts:
            with self.subTest(text=text):
                with self.assertRaises(error):
                    desk.say(text)
                self.assertEqual(kept_by(desk), before)


class Rows(Saying):
    def test_put_and_show(self):
        self.check_said(
            Desk(), ("show", ""), ("put has ann bob", "ok"), ("show", "has ann bob"), ("put has ann ?0", "ok"),
            ("put a ?10 ?9 x", "ok"), ("put has ?3 bob", "ok"),
            ("show", "a ?10 ?9 x; has ?3 bob; has ann ?0; has ann bob"),
        )

    def test_rows_stand_in_their_order(self):
        desk = desk_of("put u x", "put u ?10", "put e x", "put u ?9", "put u x x", "put e ?1 x")
        self.check_said(desk, ("show", "e ?1 x; e x; u ?9; u ?10; u x; u x x"))

    def test_a_row_stands_once(self):
        desk = Desk()
        self.check_said(desk, ("put u x", "ok"), ("put u x", "ok"), ("show", "u x"), ("drop u x", "ok"), ("show", ""))

    def test_drop(self):
        desk = desk_of("put u x", "put u ?0", "put u x x")
        self.check_said(desk, ("drop u x", "ok"), ("show", "u ?0; u x x"), ("drop u ?0", "ok"), ("show", "u x x"))
        self.check_said(desk, ("put u x", "ok"), ("show", "u x; u x x"))

    def test_drop_of_what_does_not_stand(self):
        self.check_refused(Desk(), NoRow, ("drop u x",))
        desk = desk_of("put u ?0", "put u x x", "rule u A => u x")
        self.check_refused(desk, NoRow, ("drop u x", "drop u ?1", "drop v ?0", "drop u ?0 ?0", "drop u x x x"))
        desk.say("drop u ?0")
        self.check_refused(desk, NoRow, ("drop u ?0",))

    def test_a_desk_keeps_to_itself(self):
        one, other = Desk(), Desk()
        one.say("put u x")
        one.say("rule u A => v A")
        self.check_said(other, ("show", ""), ("put u y", "ok"), ("full 5", "full 1"), ("show", "u y"))
        self.check_said(one, ("show", "u x"), ("full 5", "full 2"), ("show", "u x; v x"))


class Full(Saying):
    def test_full(self):
        desk = desk_of("put e x y", "rule e A B => e B A")
        self.check_said(desk, ("full 1", "full 2"), ("show", "e x y; e y x"), ("full 0", "full 2"),
                        ("full 40", "full 2"), ("show", "e x y; e y x"))

    def test_without_rules_or_rows(self):
        self.check_said(Desk(), ("full 0", "full 0"), ("full 40", "full 0"), ("show", ""))
        self.check_said(desk_of("put u ?0", "put u x"), ("full 0", "full 2"), ("show", "u ?0; u x"))
        self.check_said(desk_of("rule u A => v A"), ("full 0", "full 0"), ("show", ""))

    def test_the_full_one_has_new_blanks_and_lost_ones(self):
        desk = desk_of("put u x", "put e x ?4", "put e x y", "rule u A => f A B", "rule e A B, e A C => B = C")
        self.check_said(desk, ("full 9", "full 3"), ("show", "e x y; f x ?5; u x"))

    def test_open_changes_nothing(self):
        desk = desk_of("put e x y", "rule e A B => e B C")
        self.check_said(desk, ("full 0", "open"), ("full 7", "open"), ("full 40", "open"), ("show", "e x y"))
        desk = desk_of("put e x y", "put e y z", "rule e A B => e B A")
        self.check_said(desk, ("full 1", "open"), ("show", "e x y; e y z"), ("full 2", "full 4"))

    def test_a_clash_changes_nothing(self):
        desk = desk_of("put e x y", "put e x ?0", "put e z x", "put u ?0")
        desk.say("rule u A => A = z")
        desk.say("rule e A B, e A C => B = C")
        self.check_said(
            desk, ("full 40", "clash"), ("show", "e x ?0; e x y; e z x; u ?0"), ("drop u ?0", "ok"),
            ("full 40", "full 2"), ("show", "e x y; e z x"),
        )
        self.check_said(desk_of("put u x", "rule u A => x = y"), ("full 0", "clash"), ("show", "u x"))

    def test_rules_stand_behind_one_another(self):
        desk = desk_of("put u x")
        self.check_said(
            desk, ("rule u A => v A", "ok"), ("full 9", "full 2"), ("rule v A => w A", "ok"), ("full 9", "full 3"),
            ("show", "u x; v x; w x"), ("rule w A => A = y", "ok"), ("full 9", "clash"), ("show", "u x; v x; w x"),
        )

    def test_rules_that_are_alike_are_kept_as_well(self):
        desk = desk_of("put u x", "rule u A => v A", "rule u A => v A")
        self.check_said(desk, ("full 1", "full 2"), ("show", "u x; v x"))

    def test_all_counts_of_steps(self):
        desk = desk_of("put e x y", "rule e A B => e B C")
        for most in range(41):
            self.assertEqual(desk.say(f"full {most}"), "open")
            self.assertEqual(desk.say(f"sure {most} A B: e A B"), "open x y")


class Least(Saying):
    def test_least(self):
        desk = desk_of("put e ?0 y", "put e ?1 ?2", "put e x y", "put u x")
        self.check_said(desk, ("least", "least 2"), ("show", "e x y; u x"), ("least", "least 2"))

    def test_what_is_least_already(self):
        self.check_said(Desk(), ("least", "least 0"), ("show", ""))
        self.check_said(desk_of("put e ?0 x", "put e y ?0"), ("least", "least 2"), ("show", "e ?0 x; e y ?0"))

    def test_behind_full(self):
        desk = desk_of("put e x ?0", "rule e A B => e A C, u C", "put e x z", "put u z")
        self.check_said(desk, ("least", "least 2"), ("show", "e x z; u z"), ("full 5", "full 2"))


class Asked(Saying):
    DESK = ("put has ann ?0", "put has ann bob", "put has bob ?10", "put has bob ?9", "put u x")

    def test_answers(self):
        self.check_said(
            desk_of(*self.DESK), ("ask A B: has A B", "ann ?0; ann bob; bob ?9; bob ?10"),
            ("ask A: has A B", "ann; bob"),
            ("ask B B A: has A B, u x", "?0 ?0 ann; ?9 ?9 bob; ?10 ?10 bob; bob bob ann"), ("ask A: u A", "x"),
            ("ask C: has A B, has B C", "?9; ?10"), ("ask B: has ann B", "?0; bob"),
        )

    def test_no_answers(self):
        desk = desk_of(*self.DESK)
        self.check_said(desk, ("ask A: has A A", ""), ("ask A B: has B A, u A", ""), ("ask A: none A", ""))
        self.check_said(Desk(), ("ask A: has A B", ""))

    def test_yes_and_no(self):
        self.check_said(
            desk_of(*self.DESK), ("ask : has A B", "yes"), ("ask : has A A", "no"), ("ask : u x", "yes"),
            ("ask : u y", "no"),
        )
        self.check_said(Desk(), ("ask : u A", "no"))

    def test_rules_are_not_asked(self):
        desk = desk_of("put e x y", "rule e A B => e B A", "rule e A B => x = y")
        self.check_said(desk, ("ask A B: e A B", "x y"))


class Sure(Saying):
    def test_sure(self):
        desk = desk_of("put e x ?0", "put e x y", "rule e A B => f B A")
        self.check_said(
            desk, ("sure 9 A B: f A B", "sure y x"), ("sure 9 A: e A B", "sure x"), ("sure 2 B A: f A B", "sure x y"),
            ("sure 9 B: e A B, f B A", "sure y"), ("show", "e x ?0; e x y"),
        )

    def test_several_answers(self):
        desk = desk_of("put e x y", "rule e A B => e B A")
        self.check_said(desk, ("sure 1 A B: e A B", "sure x y; y x"), ("sure 0 A B: e A B", "open x y"))

    def test_no_answers(self):
        desk = desk_of("put e x ?0", "rule u A => u B")
        self.check_said(desk, ("sure 5 B: e A B", "sure "), ("sure 5 A: u A", "sure "))
        desk.say("rule e A B => e B C")
        self.check_said(desk, ("sure 5 B: e A B", "open "))
        self.check_said(Desk(), ("sure 0 A: u A", "sure "))

    def test_yes_and_no(self):
        desk = desk_of("put e x ?0")
        self.check_said(desk, ("sure 5 : e A B", "sure yes"), ("sure 5 : e A A", "sure no"))
        desk.say("rule e A B => e B C")
        self.check_said(
            desk, ("sure 5 : e A B", "open yes"), ("sure 5 : e A A", "open no"), ("sure 0 : e A B, e B C", "open no"),
            ("sure 1 : e A B, e B C", "open yes"),
        )

    def test_clash(self):
        desk = desk_of("put u x", "rule u A => A = y")
        self.check_said(desk, ("sure 5 A: u A", "clash"), ("sure 0 : u A", "clash"), ("show", "u x"))

    def test_nothing_is_changed(self):
        desk = desk_of("put e x ?0", "put e x y", "rule e A B, e A C => B = C", "rule e A B => f A B C")
        before = kept_by(desk)
        self.check_said(desk, ("sure 9 B: e A B", "sure y"), ("ask B: e A B", "?0; y"), ("show", "e x ?0; e x y"))
        self.assertEqual(kept_by(desk), before)


class Refused(Saying):
    def setUp(self):
        self.desk = desk_of("put has ann ?0", "put has ann bob", "put u x", "rule has A B => u A")

    def test_what_is_no_text(self):
        self.check_refused(self.desk, NoRow, NO_TEXTS + (["show"], ("put has a b",), b"show"))

    def test_first_words_that_are_none(self):
        self.check_refused(self.desk, NoRow, (
            "", " ", "  ", "\n", "has ann bob", "has", "PUT has a b", "Put has a b", "puts has a b", "pu has a b",
            "put\thas a b", "put\nhas a b", "put: has a b", " put has a b", "?0", "put,", "putting", "shows", "showing",
            "Show", " show", "show\n", "least\n", "leastly", "LEAST", "asks A: u A", "sures 3 A: u A", "ful 3", "3",
            "rules u A => v A", "drops u x", " full 3", "yes", "ok", "A: u A", "u A => v A", "help", "say show",
        ))

    def test_show_and_least_with_something_behind(self):
        for word in ("show", "least"):
            self.check_refused(self.desk, NoRow, [word + behind for behind in (" ", "  ", " x", " 3", " u x", " show")])

    def test_words_with_nothing_behind(self):
        self.check_refused(self.desk, NoRow, TAKING)
        for word in TAKING:
            self.check_refused(self.desk, NoText if word != "sure" else NoRow, [word + " "])

    def test_sure_without_a_second_space(self):
        self.check_refused(self.desk, NoRow, ("sure 3", "sure x", "sure 41", "sure A:", "sure 3,A:"))
        self.check_refused(self.desk, NoText, (
            "sure  ", "sure 3 ", "sure 41 ", "sure  A: u A", "sure   A: u A", "sure x ",
        ))

    def test_rows_that_are_none(self):
        for word in ("put", "drop"):
            self.check_refused(self.desk, NoText, [word + " " + text for text in (
                "", " ", "u", "u ", " u x", "u x ", "u  x", "u X", "u A", "U x", "u ?", "u ?00", "u ?1234567890",
                "u a b c d e", "abcdefghi x", "u abcdefghi", "u x, u x", "u x; u x", "u 1", "ok", "u x\n",
            )])

    def test_rules_that_are_none(self):
        self.check_refused(self.desk, NoText, ["rule " + text for text in (
            "", " ", "u A", "u A =>", " u A => u A", "u A => u A ", "u A  => u A", "u ?0 => u A", "u A => A = B",
            "u A => A =", "u A, u A, u A, u A, u A => u A", "A: u A", "has ann bob", "u A => v A, ",
        )])

    def test_counts_of_steps_that_are_none(self):
        for number in ("41", "42", "99", "100", "400", "00", "07", "040", "+1", "-1", "-0", "1.", "1.0", "x", "A", "?1",
                       "1_0", "4O", "0x1", "1e1", "", "\n", "1\n", "\t1", "1234567890", "\u0663", "\u00b2"):
            self.check_refused(self.desk, NoText, ("full " + number, f"sure {number} A: u A"))
        self.check_refused(self.desk, NoText, ("full 3 ", "full  3", "full 3 4", "full 3 A: u A"))
        for number in ("0", "7", "10", "40"):
            desk = copy.deepcopy(self.desk)
            self.assertEqual(desk.say(f"sure {number} : u x"), "open yes" if number == "0" else "sure yes")
            self.assertEqual(desk.say("full " + number), "open" if number == "0" else "full 4")

    def test_questions_that_are_none(self):
        for begin in ("ask ", "sure 3 ", "sure 0 "):
            self.check_refused(self.desk, NoText, [begin + text for text in (
                "", " ", "A", "A:", "A: ", "A:u A", " A: u A", "A: u A ", "A  A: u A", "B: u A", "a: u a", "A: u ?0",
                ": ", ":", " : u A", "A A A A A A A A A: u A", "A: u A, u A, u A, u A, u A", "u A => v A", "3 A: u A",
            )])

    def test_no_row_ahead_of_no_text(self):
        # Wrong in two ways: as a row, and in what it tells.
        self.check_refused(self.desk, NoRow, (
            "puts U", "show U", "least ", "sure 41", "sure A:", "sure ?", "ask", "Full 99",
        ))
        # What does not stand is asked for only once it is a row.
        self.check_refused(self.desk, NoText, ("drop u X", "drop has ann ?00"))


class Sessions(Saying):
    """Whole sessions, held against the document's plain words."""

    TEXTS = (
        "put e x y", "put e ?0 y", "put e ?0 ?1", "put e x ?2", "put u x", "put u ?0", "put u ?1", "put e y x",
        "drop e x y", "drop u x", "drop e ?0 y", "drop u ?7", "rule e A B => e B A", "rule u A => e A B",
        "rule e A B, e A C => B = C", "rule e A B => u B", "rule u A => A = x", "rule e A A => x = y", "show", "full 0",
        "full 1", "full 6", "full 20", "least", "ask A: e A B", "ask A B: e A B, u B", "ask : e A A", "sure 0 A: u A",
        "sure 6 A B: e A B", "sure 20 : e A B, e B A", "sure 20 A: e A A",
    )

    def plain_refusal(self, text, stand):
        if text in ("show", "least"):
            return None
        word, space, rest = text.partition(" ")
        if word not in TAKING or not space or word == "sure" and " " not in rest:
            return NoRow
        steps, question = rest, rest
        if word == "sure":
            steps, question = rest.split(" ", 1)
        right = {
            "put": tells_row(rest), "drop": tells_row(rest), "rule": tells_rule(rest), "ask": tells_question(question),
            "full": bool(re.fullmatch("[0-9]|[123][0-9]|40", steps)),
        }
        right["sure"] = right["full"] and right["ask"]
        if not right[word]:
            return NoText
        return NoRow if word == "drop" and read_row(rest) not in stand else None

    def check_one(self, desk, rules, text):
        before, probes = shown(desk), kept_by(desk)
        error = self.plain_refusal(text, before)
        if error:
            with self.assertRaises(error):
                desk.say(text)
            self.assertEqual(kept_by(desk), probes)
            return
        answer = desk.say(text)
        self.assertIs(type(answer), str)
        after = shown(desk)
        word, space, rest = text.partition(" ")
        if word == "rule":
            rules.append(read_rule(rest))
        if word in ("put", "drop"):
            changed = set(before) | {read_row(rest)} if word == "put" else set(before) - {read_row(rest)}
            self.assertEqual((answer, after), ("ok", sorted(changed)))
        elif answer.split(" ")[0] == "full":
            self.assertEqual(answer, f"full {len(after)}")
            self.assertEqual([rule for rule in rules if plain_broken(after, rule)], [])
            self.assertTrue(plain_led(before, after))
        elif word == "least":
            self.assertEqual(answer, f"least {len(after)}")
            self.assertLessEqual(set(after), set(before))
            self.assertTrue(plain_led(before, after))
            self.assertFalse(any(plain_led(after, [row for row in after if row != left]) for left in after))
        else:
            self.assertEqual(kept_by(desk)[0], probes[0])
            self.check_answer(before, rules, text, answer)

    def check_answer(self, stand, rules, text, answer):
        word, space, rest = text.partition(" ")
        if answer == "clash":
            self.assertIn(word, ("full", "sure"))
            self.assertEqual(little_homes(stand, rules), [])
        elif word == "rule":
            self.assertEqual(answer, "ok")
        elif word == "show":
            self.assertEqual(stand, sorted(set(stand)))
        elif word == "full":
            self.assertEqual(answer, "open")
            self.assertTrue(any(plain_broken(stand, rule) for rule in rules))
        elif word == "ask":
            question = read_question(rest)
            self.assertEqual(answer, self.plain_text(question, plain_answers(stand, question)))
        elif word == "sure":
            steps, asked = rest.split(" ", 1)
            question = read_question(asked)
            self.assertRegex(answer, "^(sure|open) ")
            certain = {cells for cells in plain_answers(stand, question) if not has_blank(cells)}
            if not any(plain_broken(stand, rule) for rule in rules):
                self.assertEqual(answer, "sure " + self.plain_text(question, certain))
            elif steps == "0":
                self.assertEqual(answer, "open " + self.plain_text(question, certain))

    def plain_text(self, question, found):
        if not question[0]:
            return "yes" if found else "no"
        return "; ".join(
            " ".join(f"?{value}" if kind == "blank" else value for kind, value in cells) for cells in sorted(found)
        )

    def test_sessions(self):
        chance = random.Random(50)
        for turn in range(25):
            desk, rules, said = Desk(), [], []
            for count in range(25):
                said.append(chance.choice(self.TEXTS))
                if said[-1].startswith("rule") and len(rules) > 2:
                    said[-1] = "show"
                with self.subTest(said=list(said)):
                    self.check_one(desk, rules, said[-1])

    def test_rows_with_signs_put_in_or_taken_out(self):
        chance = random.Random(51)
        desk, rules = desk_of("put e x y", "put u ?0"), []
        seen = {None: 0, NoRow: 0, NoText: 0}
        for turn in range(1500):
            text = chance.choice([text for text in self.TEXTS if not text.startswith("rule")])
            place = chance.randint(0, min(len(text), chance.choice((6, 40))))
            sign = chance.choice(" 0?A:x,\n")
            text = text[:place] + chance.choice(("", sign, sign + text[place:place + 1])) + text[place + 1:]
            seen[self.plain_refusal(text, shown(desk))] += 1
            with self.subTest(text=text):
                self.check_one(desk, rules, text)
        self.assertGreater(min(seen.values()), 60)

    def test_three_hundred_rows(self):
        desk = Desk()
        for number in range(60):
            self.assertEqual(desk.say(f"put e ?{number % 40} ?{(7 * number + 1) % 40}"), "ok")
        for text in ("e A B => u B", "u A => f A B", "f A B, f A C => B = C", "f A B => v B"):
            self.assertEqual(desk.say("rule " + text), "ok")
        for turn in range(110):
            self.assertEqual(desk.say("ask : e A B, e B C, e C D, e D A"), "yes")
            self.assertEqual(desk.say(f"put e ?{turn % 40} ?{(7 * turn + 1) % 40}"), "ok")
        self.assertEqual(desk.say("full 40"), "open")
        self.assertRegex(desk.say("sure 40 : f A B"), "^open (yes|no)$")
        self.assertRegex(desk.say("least"), "^least [0-9]+$")
        self.assertEqual(desk.say("put last x"), "ok")
        self.assertRegex(desk.say("show"), "last x$")


if __name__ == "__main__":
    unittest.main()
