"""Rows, rules and questions shown as texts and read from texts."""

from mustrows.errors import NoText
from mustrows.fits import letters_of

# Python's own isdigit and islower let other signs by, too.
FIGURES = "0123456789"
SMALL_LETTERS = "abcdefghijklmnopqrstuvwxyz"
GREAT_LETTERS = "ABCDEFGHIJKLMNOPQRSTUVWXYZ"


# Rows and patterns alike.
def show_row(row):
    return " ".join([row[0]] + [show_term(cell) for cell in row[1]])


def show_rule(rule):
    body = show_patterns(rule[1])
    if rule[0] == "must":
        return body + " => " + show_patterns(rule[2])
    return body + " => " + show_term(rule[2]) + " = " + show_term(rule[3])


def show_question(question):
    return " ".join(question[0]) + ": " + show_patterns(question[1])


def show_patterns(patterns):
    return ", ".join([show_row(pattern) for pattern in patterns])


# Cells and terms alike.
def show_term(term):
    return "?" + str(term[1]) if term[0] == "blank" else term[1]


def read_row(text):
    demand_text(text)
    return read_line(text, read_cell)


def read_rule(text):
    demand_text(text)
    sides = text.partition(" => ")
    body = read_patterns(sides[0])
    terms = sides[2].split(" = ")
    if len(terms) == 1:
        return ("must", body, read_patterns(sides[2]))
    demand(len(terms) == 2, "two terms are the same, not more")
    return ("same", body, read_known_term(terms[0], body), read_known_term(terms[1], body))


def read_question(text):
    demand_text(text)
    sides = text.partition(": ")
    body = read_patterns(sides[2])
    letters = sides[0].split(" ") if sides[0] else []
    demand(len(letters) <= 8, "a question has at most eight letters")
    known = letters_of(body)
    demand(all([letter in known for letter in letters]), "a question's letters are those of unknowns of its body")
    return (letters, body)


# A whole number as its figures tell it.
def read_number(text):
    demand(1 <= len(text) <= 9 and only_of(text, FIGURES), "a number has one to nine figures")
    demand(text == "0" or text[0] != "0", "a number has no noughts ahead")
    return int(text)


def read_patterns(text):
    parts = text.split(", ")
    demand(len(parts) <= 4, "a body or head has at most four patterns")
    return [read_line(part, read_term) for part in parts]


# A row where its words are read as cells, a pattern where they are read as terms.
def read_line(text, read_word):
    words = text.split(" ")
    demand(2 <= len(words) <= 5, "a table's name is followed by one to four words")
    return (read_name(words[0]), tuple([read_word(word) for word in words[1:]]))


def read_cell(word):
    if word.startswith("?"):
        return ("blank", read_number(word[1:]))
    return ("name", read_name(word))


def read_term(word):
    if len(word) == 1 and word in GREAT_LETTERS:
        return ("any", word)
    return ("name", read_name(word))


def read_known_term(word, body):
    term = read_term(word)
    demand(term[0] == "name" or term[1] in letters_of(body), "what is the same is a name or an unknown of the body")
    return term


def read_name(word):
    demand(1 <= len(word) <= 8 and only_of(word, SMALL_LETTERS), "a name has one to eight letters from a to z")
    return word


def only_of(text, signs):
    return all([sign in signs for sign in text])


def demand_text(text):
    demand(isinstance(text, str), "what is read is a text")


def demand(holds, words):
    if not holds:
        raise NoText(words)
