"""What holds in every home of a stand and of rules."""

from mustrows.fits import answers
from mustrows.fulls import full


def sure(rows, rules, question, most):
    told = full(rows, rules, most)
    if told[0] == "clash":
        return ("clash",)
    found = [cells for cells in answers(told[1], question) if all([cell[0] == "name" for cell in cells])]
    return ("sure" if told[0] == "full" else "open", found)
