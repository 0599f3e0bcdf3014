"""Points 2 and 4 over the whole: all that the interface lists, called by place and by the names of its arguments."""

import importlib
import unittest

from halfcrumb.desk import Desk
from halfcrumb.fractions import fraction_text
from halfcrumb.halving import Halving
from halfcrumb.honest import run_by
from halfcrumb.lookers import is_log, is_shared
from halfcrumb.onecuts import OneCuts
from halfcrumb.room import Room
from halfcrumb.shares import Share
from halfcrumb.tables import Table
from halfcrumb.tabletext import read_table
from halfcrumb.thread import Thread
from halfcrumb.threehands import ThreeHands
from halfcrumb.trimming import Trimming
from halfcrumb.watching import Watcher
from tests.common import NOUGHT, ONE
from tests.test_interface import CLASSES, FUNCTIONS
from tests.test_room import full_room

HALF = (1, 2)
EVEN = Table([(1, 1)])
LATE = Table([(1, 1), (1, 3)])
EARLY = Table([(1, 3), (1, 1)])
LOG = [(("cut", 0, NOUGHT, ONE, ONE, HALF), (3, 8))]


def ended():
    """A way that has ended."""
    way = OneCuts()
    run_by(way, [LATE, EVEN])
    return way


def halves():
    """Both halves of the loaf, the right one ahead."""
    return [Share([(HALF, ONE)]), Share([(NOUGHT, HALF)])]


# Each function with its arguments, in their order; those with a default come last.
FUNCTION_CALLS = {
    "fractions": {
        "fraction_of": {"top": 6, "bottom": 4}, "plus": {"one": HALF, "other": (1, 3)},
        "minus": {"one": HALF, "other": (1, 3)}, "times": {"one": HALF, "other": (1, 3)},
        "over": {"one": HALF, "other": (1, 3)}, "is_less": {"one": (1, 3), "other": HALF},
        "fraction_text": {"fraction": (-3, 8)}, "read_fraction": {"text": "-3/8"},
    },
    "tabletext": {"read_table": {"text": "1:1 2:0"}},
    "sharetext": {"read_share": {"text": "0-1/4 1/2-1"}},
    "honest": {
        "reply_by": {"table": LATE, "ask": LOG[0][0]}, "run_by": {"way": OneCuts, "tables": [LATE, EVEN]},
        "first_false": {"way": ended, "hand": 0, "table": EVEN}, "honest": {"way": ended, "hand": 0, "table": EVEN},
        "sorry_table": {"way": ended, "hand": 0, "tables": [LATE, EVEN]},
        "envied": {"way": ended, "hand": 0, "table": EVEN},
    },
    "halves": {"half_span": {"one": EVEN, "other": LATE}},
    "cells": {"all_ends": {"tables": [EVEN, LATE]}},
    "whole": {"whole_pieces": {"tables": [EARLY, EVEN]}},
    "beads": {"fewest_cuts": {"beads": "aabb"}},
    "evenness": {"most_even": {"tables": [LATE, EARLY]}},
    "lookers": {
        "is_shared": {"shares": halves()}, "is_half": {"one": EVEN, "other": EARLY, "here": (1, 6), "there": (2, 3)},
        "is_whole": {"tables": [EARLY, LATE], "cuts": [HALF], "order": [0, 1]},
        "is_even": {"beads": "aabb", "cuts": [1, 3]},
        "is_most": {"tables": [LATE, EARLY], "part": (3, 4), "shares": halves(), "weights": [HALF, HALF]},
        "is_log": {"way": OneCuts, "log": LOG},
    },
}
# Each class with how its object is made for the calls, and its methods with their arguments.
METHOD_CALLS = {
    "tables": (lambda: LATE, {
        "worth": {"here": (1, 4), "there": (3, 4)}, "cut": {"here": (1, 4), "much": (1, 3), "last": (3, 4)},
    }),
    "shares": (lambda: Share([(NOUGHT, HALF)]), {
        "plus": {"other": halves()[0]}, "less": {"other": Share([(NOUGHT, (1, 3))])},
        "both": {"other": Share([((1, 3), ONE)])}, "parted": {"place": (1, 3)}, "worth": {"table": LATE},
    }),
    "ways": (OneCuts, {"answer": {"reply": HALF}}),
    "watching": (Watcher, {"watch": {"way": OneCuts, "word": "cake"}}),
    "thread": (lambda: Thread("aabb"), {"cut": {"at": 1}, "counts": {"hand": 0}}),
    "room": (full_room, {
        "seat": {"name": "fay", "text": "1:1"}, "retell": {"name": "ben", "text": "1:1"}, "leave": {"name": "eve"},
        "rename": {"name": "ann", "new": "gus"}, "begin": {"run": "u", "word": "halving", "names": ["eve", "ann"]},
        "answer": {"run": "r", "reply": 3}, "twin": {"run": "r", "new": "u"}, "drop": {"run": "s"},
        "honest": {"run": "r"}, "back": {"run": "r"}, "again": {"run": "r"}, "finish": {"run": "r"},
        "hands": {"run": "r"}, "table": {"name": "ben"}, "way": {"run": "r"}, "due": {"run": "r"},
        "share": {"run": "s", "name": "ben"}, "faith": {"run": "r"}, "asked": {"name": "ben"},
    }),
    "desk": (Desk, {"told": {"line": "seat ann 1:1"}}),
}
# What an object is known by behind a call.
KNOWN = {
    "ways": lambda way: str(way), "thread": lambda thread: str(thread),
    "watching": lambda watcher: sorted(watcher.watched), "room": lambda room: (room, len(room)),
    "desk": lambda desk: desk.told("hands"),
}


def fresh(handed):
    """The arguments, those that a call changes made anew."""
    return {name: value() if callable(value) else value for name, value in handed.items()}


class Calls(unittest.TestCase):
    def check(self, call):
        """The call, which is handed places and names, tells the same however they are handed in."""
        def by(places):
            def told(handed):
                handed = fresh(handed)
                first = list(handed)[:places]
                named = {name: handed[name] for name in reversed(list(handed)) if name not in first}
                return [handed[name] for name in first], named
            return told
        results = [call(by(places)) for places in range(5)]
        for result in results[1:]:
            self.assertEqual(result, results[0])
        return results[0]

    def test_functions(self):
        for module, functions in FUNCTION_CALLS.items():
            for name, handed in functions.items():
                function = getattr(importlib.import_module(f"halfcrumb.{module}"), name)

                def call(by):
                    places, named = by(handed)
                    return function(*places, **named)
                self.assertIsNotNone(self.check(call), name)

    def test_methods(self):
        for module, (making, methods) in METHOD_CALLS.items():
            for name, handed in methods.items():

                def call(by):
                    thing = making()
                    places, named = by(handed)
                    told = getattr(thing, name)(*places, **named)
                    return told, KNOWN.get(module, str)(thing)
                self.check(call)

    def test_each_listed_one_is_called(self):
        for module, functions in FUNCTIONS.items():
            self.assertEqual({text.partition("(")[0] for text in functions}, set(FUNCTION_CALLS[module]))
        for module, (name, making, methods) in CLASSES.items():
            called = METHOD_CALLS.get(module, (None, {}))[1]
            for text in methods:
                method, rest = text.partition("(")[::2]
                if not method.startswith("__") and rest != ")" and text not in ("mend(at=None)", "leave(word)"):
                    self.assertIn(method, called, f"{name}.{text}")


class LeftOut(unittest.TestCase):
    def test_of_a_function(self):
        fraction_of = importlib.import_module("halfcrumb.fractions").fraction_of
        self.assertEqual((fraction_of(7), fraction_of(top=7), fraction_of(bottom=1, top=7)), ((7, 1),) * 3)

    def test_of_a_table(self):
        for worth in (LATE.worth(), LATE.worth(None, None), LATE.worth(there=None), LATE.worth(there=ONE, here=None)):
            self.assertEqual(worth, (4, 1))
        self.assertEqual((LATE.worth((1, 4)), LATE.worth(here=(1, 4))), ((7, 2),) * 2)
        self.assertEqual((LATE.worth(there=(1, 4)), LATE.worth(None, (1, 4))), (HALF,) * 2)
        for cut in (
            LATE.cut(HALF, (3, 2)), LATE.cut(much=(3, 2), here=HALF), LATE.cut(HALF, (3, 2), None),
            LATE.cut(last=ONE, much=(3, 2), here=HALF), LATE.cut(HALF, much=(3, 2)),
        ):
            self.assertEqual(cut, (3, 4))

    def test_of_the_ways(self):
        for kind, name, number in (
            (OneCuts, "cutter", 0), (Halving, "hands", 2), (Trimming, "hands", 2), (ThreeHands, "cutter", 0),
        ):
            self.assertTrue(kind() == kind(number) == kind(**{name: number}))
            self.assertTrue(kind(number + 1) == kind(**{name: number + 1}))
            self.assertFalse(kind() == kind(number + 1))

    def test_of_a_thread(self):
        for handed in ({}, {"at": None}, {"at": 3}):
            thread = Thread(beads="aabb")
            thread.cut(at=1)
            thread.cut(at=3)
            thread.mend(**handed)
            self.assertEqual(thread.cuts(), [1])

    def test_of_makings(self):
        self.assertEqual(Table(stretches=[(1, 1), (1, 3)]), LATE)
        self.assertEqual(Share(spans=[(NOUGHT, HALF)]), halves()[1])
        self.assertEqual(Thread(beads="ab"), Thread("ab"))

    def test_of_a_watcher(self):
        watcher, way = Watcher(), OneCuts()
        watcher.watch(word="a", way=way)
        way.answer(reply=HALF)
        watcher.leave(word="a")
        self.assertEqual(watcher.heard(), [("answer", "a", HALF)])


class HandedIn(unittest.TestCase):
    """Nothing that is handed in is changed, and what is changed behind the call changes nothing."""

    def test_lists_stay_as_they_are(self):
        for module, functions in FUNCTION_CALLS.items():
            for name, handed in functions.items():
                given = fresh(handed)
                lists = {key: list(value) for key, value in given.items() if isinstance(value, list)}
                getattr(importlib.import_module(f"halfcrumb.{module}"), name)(**given)
                for key, value in lists.items():
                    self.assertEqual(given[key], value, name)

    def test_lists_that_are_changed_behind_the_call(self):
        stretches, spans, names = [(1, 1), (1, 3)], [(NOUGHT, HALF)], ["ann", "ben"]
        table, share, room = Table(stretches), Share(spans), Room()
        for name in names:
            room.seat(name, "1:1")
        room.begin("r", "onecuts", names)
        for handed in (stretches, spans, names):
            handed.clear()
        self.assertEqual((str(table), str(share), room.hands("r")), ("1:1 1:3", "0-1/2", ["ann", "ben"]))

    def test_told_lists_within_a_told_tuple(self):
        tables = [read_table("1:1 1:3"), read_table("1:1")]
        for module, name in (("whole", "whole_pieces"), ("evenness", "most_even")):
            function = getattr(importlib.import_module(f"halfcrumb.{module}"), name)
            for told in [part for part in function(tables) if isinstance(part, list)]:
                told.clear()
            self.assertTrue(all(len(part) > 0 for part in function(tables)))


class OverTheWhole(unittest.TestCase):
    """Point 4, from a desk to the shares: whoever replies by the own table gets the own part, whatever others reply."""

    def test_an_honest_hand_among_others(self):
        for word, names in (
            ("onecuts", "ann ben"), ("halving", "ben cy ann dan"), ("trimming", "dan cy ben ann"),
            ("threehands", "cy ann ben"),
        ):
            for one in names.split(" "):
                desk = Desk()
                for name, text in (("ann", "1:1"), ("ben", "1:1 1:3"), ("cy", "2:1 1:0 1:5"), ("dan", "1:3 1:1")):
                    desk.told(f"seat {name} {text}")
                desk.told(f"begin r {word} {names}")
                while desk.told("due r") != "none":
                    name, ask = desk.told("due r").split(" ")
                    if name == one:
                        desk.told("honest r")
                    elif ask in ("cut", "even"):
                        there = desk.room().due("r")[1][3]
                        desk.told(f"answer r {fraction_text(there)}")
                    else:
                        desk.told("answer r 0")
                room = desk.room()
                many = len(names.split(" "))
                top, bottom = room.share("r", one).worth(room.table(one))
                self.assertGreaterEqual(top * many, room.table(one).total() * bottom)
                self.assertIn((one, None), room.faith("r"))
                self.assertTrue(is_log(room.way("r"), room.way("r").log()))
                self.assertTrue(is_shared(room.way("r").shares()))


if __name__ == "__main__":
    unittest.main()
