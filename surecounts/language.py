"""How questions are written and read."""

from surecounts.checks import check_sizes
from surecounts.errors import InvalidText
from surecounts.grids import grid_times
from surecounts.questions import Question, products
from surecounts.wheres import has_where_form, is_values, where_grid
from surecounts.words import read_number, read_numbers, read_where


def split_terms(text):
    """The list of the terms of a text, each with its factor 1 or -1."""
    terms = []
    factor = 1
    start = at = 0
    while at < len(text):
        sign = text[at:at + 3]
        if sign in (" + ", " - "):
            terms.append((factor, text[start:at]))
            factor = 1 if sign == " + " else -1
            at += 3
            start = at
        else:
            at += 1
    terms.append((factor, text[start:]))
    if terms[0][1].startswith("-"):
        terms[0] = (-1, terms[0][1][1:])
    return terms


def read_block(left, right, words):
    """The weights of a part `block`, by the words of its left and right values, or None."""
    lefts = read_numbers(words[0].split(","))
    rights = read_numbers(words[1].split(","))
    if not is_values(left, lefts) or not is_values(right, rights):
        return None
    return products([int(a in lefts) for a in range(left)], [int(b in rights) for b in range(right)])


def read_ends(left, right, words):
    """The weights of a part `ends`, by the words of its left and right integers, or None."""
    lefts = read_numbers(words[0].split(","))
    rights = read_numbers(words[1].split(","))
    if lefts is None or rights is None or len(lefts) != left or len(rights) != right:
        return None
    return products(lefts, rights)


def read_part(left, right, part):
    """The weights of a part, or None if it is not written so."""
    words = part.split(" ")
    if words[0] == "block" and len(words) == 3:
        return read_block(left, right, words[1:])
    if words[0] == "ends" and len(words) == 4 and words[2] == "by":
        return read_ends(left, right, [words[1], words[3]])
    where = read_where(words)
    return where_grid(left, right, where) if has_where_form(left, right, where) else None


def read_term(left, right, term):
    """The weights of a term without its sign, or None if it is not written so."""
    amount, times, part = term.partition(" * ")
    if times == "":
        return read_part(left, right, term)
    factor = read_number(amount)
    weights = read_part(left, right, part)
    if factor is None or weights is None:
        return None
    return grid_times(weights, factor)


def read_question(left, right, text):
    """The question that a text asks, for two sizes."""
    check_sizes(left, right)
    if not isinstance(text, str):
        raise InvalidText(None)
    total = [[0] * right for _ in range(left)]
    for index, (factor, term) in enumerate(split_terms(text)):
        weights = read_term(left, right, term)
        if weights is None:
            raise InvalidText(index)
        for a, line in enumerate(weights):
            for b, weight in enumerate(line):
                total[a][b] += factor * weight
    return Question(tuple([tuple(sums) for sums in total]))


def write_term(left, right, weight):
    """The term of a cell, without its sign."""
    if abs(weight) == 1:
        return f"cell {left} {right}"
    return f"{abs(weight)} * cell {left} {right}"


def write_question(question):
    """The text of a question, with a term for each cell that has a weight."""
    text = ""
    for left, line in enumerate(question.weights):
        for right, weight in enumerate(line):
            if weight == 0:
                continue
            if text == "":
                sign = "-" if weight < 0 else ""
            else:
                sign = " - " if weight < 0 else " + "
            text += sign + write_term(left, right, weight)
    return "0 * all" if text == "" else text
