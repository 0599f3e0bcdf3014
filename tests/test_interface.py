"""The interface: names, arguments and where each method stands."""

import importlib
import inspect
import unittest

FUNCTIONS = {
    "fractions": (
        "fraction_of(top, bottom=1)", "plus(one, other)", "minus(one, other)", "times(one, other)",
        "over(one, other)", "is_less(one, other)", "fraction_text(fraction)", "read_fraction(text)",
    ),
    "tabletext": ("read_table(text)",),
    "sharetext": ("read_share(text)",),
    "honest": (
        "reply_by(table, ask)", "run_by(way, tables)", "first_false(way, hand, table)", "honest(way, hand, table)",
        "sorry_table(way, hand, tables)", "envied(way, hand, table)",
    ),
    "halves": ("half_span(one, other)",),
    "cells": ("all_ends(tables)",),
    "whole": ("whole_pieces(tables)",),
    "beads": ("fewest_cuts(beads)",),
    "evenness": ("most_even(tables)",),
    "lookers": (
        "is_shared(shares)", "is_half(one, other, here, there)", "is_whole(tables, cuts, order)",
        "is_even(beads, cuts)", "is_most(tables, part, shares, weights)", "is_log(way, log)",
    ),
}
CLASSES = {
    "tables": ("Table", "(stretches)", (
        "stretches()", "total()", "ends()", "worth(here=None, there=None)", "cut(here, much, last=None)",
        "__len__()", "__eq__(other)", "__str__()",
    )),
    "shares": ("Share", "(spans)", (
        "spans()", "plus(other)", "less(other)", "both(other)", "parted(place)", "length()", "worth(table)",
        "__len__()", "__eq__(other)", "__str__()",
    )),
    # Way is never made alone, so what it is made of is free.
    "ways": ("Way", None, (
        "due()", "ended()", "hands()", "log()", "asked()", "shares()", "answer(reply)", "back()", "again()", "twin()",
        "__len__()", "__eq__(other)", "__str__()",
    )),
    "watching": ("Watcher", "()", ("watch(way, word)", "leave(word)", "heard()")),
    "onecuts": ("OneCuts", "(cutter=0)", ()),
    "halving": ("Halving", "(hands=2)", ()),
    "trimming": ("Trimming", "(hands=2)", ()),
    "threehands": ("ThreeHands", "(cutter=0)", ()),
    "thread": ("Thread", "(beads)", (
        "cut(at)", "mend(at=None)", "flip()", "undo()", "again()", "settle()", "cuts()", "pieces()", "begins()",
        "counts(hand)", "even()", "twin()", "__len__()", "__eq__(other)", "__str__()",
    )),
    "room": ("Room", "()", (
        "seat(name, text)", "retell(name, text)", "leave(name)", "rename(name, new)", "begin(run, word, names)",
        "answer(run, reply)", "twin(run, new)", "drop(run)", "undo()", "redo()", "honest(run)", "back(run)",
        "again(run)", "finish(run)", "names()", "runs()", "hands(run)", "table(name)", "way(run)", "due(run)",
        "share(run, name)", "faith(run)", "asked(name)", "double()", "__len__()", "__eq__(other)",
    )),
    "desk": ("Desk", "()", ("told(line)", "room()")),
}


def written(function, name):
    """A function as the interface writes it, without the own object of a method."""
    parameters = [
        parameter for parameter in inspect.signature(function).parameters.values() if parameter.name != "self"
    ]
    return f"{name}({', '.join(str(parameter) for parameter in parameters)})"


class Interface(unittest.TestCase):
    def test_functions(self):
        for module, functions in FUNCTIONS.items():
            for text in functions:
                name = text.partition("(")[0]
                found = getattr(importlib.import_module(f"halfcrumb.{module}"), name)
                self.assertEqual(written(found, name), text)

    def test_classes(self):
        for module, (name, making, methods) in CLASSES.items():
            kind = getattr(importlib.import_module(f"halfcrumb.{module}"), name)
            if making is not None:
                self.assertEqual(written(vars(kind)["__init__"], ""), making)
            for text in methods:
                method = text.partition("(")[0]
                self.assertIn(method, vars(kind), f"{name} has {method} in its own body")
                self.assertEqual(written(vars(kind)[method], method), text)


if __name__ == "__main__":
    unittest.main()
