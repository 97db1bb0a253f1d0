"""A desk that is told rows of text and answers each."""

from mustrows.cores import least_part
from mustrows.errors import NoRow, NoText
from mustrows.fits import answers
from mustrows.fulls import full
from mustrows.stands import stand_of
from mustrows.sures import sure
from mustrows.texts import read_number, read_question, read_row, read_rule, show_row, show_term


# Whatever can be refused is done ahead of any change.
class Desk:
    def __init__(self):
        self.rows = []
        self.rules = []

    def say(self, row):
        if not isinstance(row, str):
            raise NoRow("what a desk is told is a text")
        parts = row.partition(" ")
        if parts[1] == "":
            return self.do_alone(row)
        return self.do_with(parts[0], parts[2])

    def do_alone(self, word):
        if word == "show":
            return "; ".join([show_row(row) for row in self.rows])
        if word == "least":
            return self.make_least()
        raise NoRow("only show and least stand alone")

    def do_with(self, word, text):
        if word == "put":
            return self.put(read_row(text))
        if word == "drop":
            return self.drop(read_row(text))
        if word == "rule":
            return self.put_rule(read_rule(text))
        if word == "full":
            return self.make_full(read_steps(text))
        if word == "ask":
            return self.answer(read_question(text))
        if word == "sure":
            return self.answer_everywhere(text)
        raise NoRow("no row begins so")

    def put(self, row):
        self.rows = stand_of(self.rows + [row])
        return "ok"

    def drop(self, row):
        if row not in self.rows:
            raise NoRow("the row to be dropped does not stand")
        self.rows = [kept for kept in self.rows if kept != row]
        return "ok"

    def put_rule(self, rule):
        self.rules.append(rule)
        return "ok"

    def make_full(self, most):
        told = full(self.rows, self.rules, most)
        if told[0] != "full":
            return told[0]
        self.rows = told[1]
        return self.counted("full")

    def make_least(self):
        self.rows = least_part(self.rows)[0]
        return self.counted("least")

    def counted(self, word):
        count = len(self.rows)
        return f"{word} {count}"

    def answer(self, question):
        return show_answers(question, answers(self.rows, question))

    def answer_everywhere(self, text):
        parts = text.partition(" ")
        if parts[1] == "":
            raise NoRow("behind sure stand a number, a space and a question")
        most = read_steps(parts[0])
        question = read_question(parts[2])
        told = sure(self.rows, self.rules, question, most)
        if told[0] == "clash":
            return "clash"
        return told[0] + " " + show_answers(question, told[1])


def read_steps(text):
    most = read_number(text)
    if most > 40:
        raise NoText("at most forty steps are let by")
    return most


def show_answers(question, found):
    if not question[0]:
        return "yes" if found else "no"
    return "; ".join([show_cells(cells) for cells in found])


def show_cells(cells):
    return " ".join([show_term(cell) for cell in cells])
