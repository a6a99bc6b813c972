"""A console: commands, each a text, that lead a bench of books."""

from surecounts.bench import Bench, check_name
from surecounts.books import redo
from surecounts.contradictions import least_part
from surecounts.ends import ends
from surecounts.errors import InvalidCommand, InvalidNumber, InvalidText
from surecounts.language import read_question
from surecounts.texts import read_facts, write_facts
from surecounts.words import number_words, read_number, read_where


def rest_of(words, start):
    """The rest of a command, from a word on."""
    return " ".join(words[start:])


def read_rest(words, start):
    """The facts that the rest of a command tells, from a word on."""
    return read_facts(rest_of(words, start).replace("; ", "\n"))


def read_count(word):
    """The integer from 0 that a word writes; raises InvalidNumber with a word that writes none."""
    number = read_number(word)
    if number is None:
        raise InvalidNumber(word)
    return number


def end_word(end):
    """How one of the ends of a question is told."""
    return "-" if end is None else str(end)


def run_keep(bench, words):
    """keep NAME FACTS"""
    check_name(words[1])
    bench.keep(words[1], read_rest(words, 2))
    return "ok"


def run_drop(bench, words):
    """drop NAME"""
    bench.drop(words[1])
    return "ok"


def run_rows(bench, words):
    """insert or remove NAME LEFT RIGHT MANY"""
    numbers = [read_count(word) for word in words[2:]]
    redo(bench.book(words[1]), (words[0], *numbers))
    return "ok"


def run_recount(bench, words):
    """recount NAME COUNT WHERE"""
    number = read_count(words[2])
    book = bench.book(words[1])
    where = read_where(words[3:])
    if where is None:
        raise InvalidText(0)
    redo(book, ("recount", where, number))
    return "ok"


def run_undo(bench, words):
    """undo NAME"""
    bench.book(words[1]).undo()
    return "ok"


def run_names(bench, _):
    """names"""
    return " ".join(bench.names()) if len(bench) > 0 else "-"


def run_facts(bench, words):
    """facts NAME"""
    return write_facts(bench.book(words[1]).facts).replace("\n", "; ")


def run_ends(bench, words):
    """ends NAME QUESTION"""
    facts = bench.book(words[1]).facts
    found = ends(facts, read_question(facts.left, facts.right, rest_of(words, 2)))
    return " ".join([end_word(end) for end in found])


def run_part(_, words):
    """part FACTS"""
    part = least_part(read_rest(words, 1))
    return "-" if part is None else ",".join(number_words(part))


ACTIONS = {
    "keep": run_keep, "drop": run_drop, "insert": run_rows, "remove": run_rows, "recount": run_recount,
    "undo": run_undo, "names": run_names, "facts": run_facts, "ends": run_ends, "part": run_part,
}

# The least and the greatest number of words of each command, None for any number.
LENGTHS = {
    "keep": (3, None), "drop": (2, 2), "insert": (5, 5), "remove": (5, 5), "recount": (4, None),
    "undo": (2, 2), "names": (1, 1), "facts": (2, 2), "ends": (3, None), "part": (2, None),
}


def words_of(command):
    """The list of the words of any value; raises InvalidCommand if it is no text of words."""
    if not isinstance(command, str) or "\n" in command or "\t" in command:
        raise InvalidCommand(None)
    words = command.split(" ")
    if "" in words:
        raise InvalidCommand(None)
    return words


def check_length(words):
    """Raises InvalidCommand with the first word if it is no command, or if this has another number of words."""
    if words[0] not in LENGTHS:
        raise InvalidCommand(words[0])
    fewest, most = LENGTHS[words[0]]
    if len(words) < fewest or (most is not None and len(words) > most):
        raise InvalidCommand(words[0])


class Console:
    """A bench that is led by commands."""

    def __init__(self):
        self._bench = Bench()

    @property
    def bench(self):
        return self._bench

    def run(self, command):
        """Does a command and returns what it tells."""
        words = words_of(command)
        check_length(words)
        action = ACTIONS[words[0]]
        return action(self._bench, words)
