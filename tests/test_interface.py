"""The interface: what stands in which file, the names of arguments, methods in the body of their class."""

import importlib
import inspect
import unittest

FUNCTIONS = {
    "wheres": {"is_where": "left right value", "cells": "left right where"},
    "texts": {"write_facts": "facts", "write_table": "table", "read_facts": "text", "read_table": "text"},
    "language": {"read_question": "left right text", "write_question": "question"},
    "ends": {"fitting": "facts", "greatest": "facts question", "least": "facts question", "ends": "facts question"},
    "papers": {"upper": "facts question prices", "lower": "facts question prices",
               "is_greatest": "facts question value", "is_least": "facts question value"},
    "contradictions": {"contradiction": "facts", "is_contradiction": "facts value", "least_part": "facts"},
    "spreads": {"steep": "rows different most", "level": "rows different"},
    "joins": {"greatest_join": "one other", "least_join": "one other", "greatest_along": "keys spreads",
              "least_along": "keys spread", "tops": "spread", "join_bound": "one other first second"},
    "plans": {"plans": "joined", "results": "plan", "is_plan": "joined value", "worst": "joined plan",
              "need": "joined plan given", "best": "joined", "report": "joined", "is_report": "joined value"},
    "counts": {"wide": "facts question wheres width most", "fewest": "facts question wheres width most",
               "is_enough": "facts questions kept", "least_facts": "facts questions most"},
    "runs": {"walk": "chain plan table", "surprise": "chain plan table", "wrong": "chain table"},
    "journal": {"write_journal": "book", "read_journal": "facts text"},
}
CLASSES = {
    "tables": {"Table": {
        "__init__": "self counts", "of_rows": "left right rows", "count": "self left right", "lefts": "self",
        "rights": "self", "turned": "self", "each": "self", "__contains__": None, "__add__": None, "__sub__": None,
        "__mul__": None, "__eq__": None, "counts": property, "left": property, "right": property, "total": property,
    }},
    "facts": {"Facts": {
        "__init__": "self left right facts", "fact": "self index", "without": "self index", "listed": "self",
        "with_fact": "self fact", "over": "self left right", "limits": "self where", "__call__": "self table",
        "__and__": None, "__contains__": None, "__len__": None, "__eq__": None, "left": property, "right": property,
    }},
    "questions": {"Question": {
        "__init__": "self weights", "at": "left right where", "between": "lefts rights", "weight": "self left right",
        "turned": "self", "__call__": "self table", "__add__": None, "__sub__": None, "__mul__": None, "__neg__": None,
        "__eq__": None, "weights": property, "left": property, "right": property,
    }},
    "spreads": {"Spread": {
        "__init__": "self size rows different most", "pairs": "self", "narrowed": "self", "greatest_in": "self many",
        "least_in": "self many", "grown": "self known", "shrunk": "self last", "__contains__": None, "__and__": None,
        "__eq__": None, "size": property, "rows": property, "different": property, "most": property,
    }},
    "chains": {"Chain": {
        "__init__": "self before facts behind", "question": "self start stop", "whole": "self start stop",
        "answers": "self start stop table", "__len__": None, "kept": property, "facts": property,
    }},
    "stars": {"Star": {
        "__init__": "self keys columns", "greatest": "self members", "answers": "self members columns",
        "__len__": None,
    }},
    "books": {"Book": {
        "__init__": "self facts", "insert": "self left right many", "remove": "self left right many",
        "recount": "self where number", "undo": "self", "history": "self", "applied": "self table", "copy": "self",
        "attempt": "self visitor", "__len__": None, "__eq__": None, "facts": property,
    }},
    "bench": {"Bench": {
        "__init__": "self", "keep": "self name facts", "drop": "self name", "book": "self name", "names": "self",
        "trial": "self", "attempt": "self visitor", "copy": "self", "__len__": None, "__eq__": None,
    }},
    "console": {"Console": {"__init__": "self", "run": "self command", "bench": property}},
}

# What may be omitted; all other arguments have no default.
DEFAULTS = {"wide": {"most": 500}, "fewest": {"most": 500}, "least_facts": {"most": 500}, "steep": {"most": None},
            "Facts.__init__": {"facts": ()}, "Spread.__init__": {"most": None}, "Spread.grown": {"known": None},
            "Spread.shrunk": {"last": None}, "Book.insert": {"many": 1}, "Book.remove": {"many": 1}}


def names(function):
    return " ".join(inspect.signature(function).parameters)


def defaults(function):
    given = inspect.signature(function).parameters.values()
    return {told.name: told.default for told in given if told.default is not told.empty}


class Interface(unittest.TestCase):

    def test_functions(self):
        for file, functions in FUNCTIONS.items():
            module = importlib.import_module(f"surecounts.{file}")
            for name, given in functions.items():
                function = vars(module)[name]
                self.assertTrue(inspect.isfunction(function), name)
                self.assertEqual((function.__module__, names(function)), (f"surecounts.{file}", given))
                self.assertEqual(defaults(function), DEFAULTS.get(name, {}), name)

    def test_classes(self):
        for file, classes in CLASSES.items():
            module = importlib.import_module(f"surecounts.{file}")
            for name, methods in classes.items():
                made = vars(module)[name]
                self.assertEqual(made.__module__, f"surecounts.{file}")
                for method, given in methods.items():
                    self.assertIn(method, vars(made), (name, method))
                    if given is property:
                        self.assertIsInstance(vars(made)[method], property, (name, method))
                    elif given is not None:
                        self.assertEqual(names(getattr(made, method)), given, (name, method))
                        self.assertEqual(defaults(getattr(made, method)), DEFAULTS.get(f"{name}.{method}", {}), method)
