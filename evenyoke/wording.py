"""Wording: how the desk reads numbers and writes what it tells [22]."""

from evenyoke.errors import NoLine
from evenyoke.parts import divisor_of

MOST_FIGURES = 60


def are_figures(word):
    if not 1 <= len(word) <= MOST_FIGURES or (len(word) > 1 and word[0] == "0"):
        return False
    return all(["0" <= sign <= "9" for sign in word])


def number_from(word):
    figures = word[1:] if word.startswith("-") else word
    if not are_figures(figures) or word == "-0":
        raise NoLine("a whole number is written in one to sixty figures")
    return int(word)


# A fraction that is read is from 0 on, so neither of its numbers has a sign.
def part_from(word):
    halves = word.split("/") if "/" in word else [word, "1"]
    if len(halves) > 2 or not are_figures(halves[0]) or not are_figures(halves[1]):
        raise NoLine("a fraction is written as its top, a / and its bottom")
    part = (int(halves[0]), int(halves[1]))
    if divisor_of(part[0], part[1]) > 1 or ("/" in word and part[1] < 2):
        raise NoLine("a fraction is written in lowest terms, without a bottom of 1")
    return part


def part_text(part):
    top = part[0]
    bottom = part[1]
    return str(top) if bottom == 1 else f"{top}/{bottom}"


# Rows of words, the words parted by blanks; or another text where there is no row.
def rows_text(rows, otherwise):
    return ", ".join([" ".join(row) for row in rows]) if len(rows) > 0 else otherwise


def changes_text(changes):
    return rows_text([(name, part_text(before), part_text(after)) for name, before, after in changes], "still")


def names_text(ahead, names, chores):
    return " ".join([ahead] + names + ["/"] + chores)


def layer_text(layer):
    return names_text(part_text(layer[0]) + ":", layer[1], layer[2])
