"""Points 35 to 39: a room."""

import itertools
import unittest
from random import Random

from halfcrumb.errors import (
    CrumbError, Ended, NoHand, NoHands, NoName, NoReply, NoRun, NoTable, NoText, NotEnded, NothingDone, NothingSaid,
    NoWay, Seated, Taken,
)
from halfcrumb.halving import Halving
from halfcrumb.honest import first_false, reply_by, run_by
from halfcrumb.onecuts import OneCuts
from halfcrumb.room import Room
from halfcrumb.shares import Share
from halfcrumb.tables import Table
from halfcrumb.tabletext import read_table
from halfcrumb.threehands import ThreeHands
from halfcrumb.trimming import Trimming
from tests.common import NEVER, NOUGHT, ONE, answered, legal_reply, stands

HALF = (1, 2)
NO_NAMES = ("", "Ann", "ann1", "a b", " ann", "ann ", "abcdefghi", "ann*", "a-b", "1", "_", "~", "aBc", "a" * 400)
TABLES = {"ann": "1:1", "ben": "1:1 1:3", "cy": "2:1 1:0 1:5", "dan": "1:3 1:1", "eve": "1:0 1:1"}
# Each way by its word, with some counts of hands that it has, and the way that it then is.
WAYS = (
    ("onecuts", 2, lambda: OneCuts(0)), ("halving", 2, lambda: Halving(2)), ("halving", 3, lambda: Halving(3)),
    ("halving", 4, lambda: Halving(4)), ("trimming", 2, lambda: Trimming(2)), ("trimming", 3, lambda: Trimming(3)),
    ("trimming", 4, lambda: Trimming(4)), ("threehands", 3, lambda: ThreeHands(0)),
)


def share_text(room, run, name):
    """The text of a share, or how many replies stand ahead of the end."""
    try:
        return str(room.share(run, name))
    except NotEnded as refusal:
        return refusal.many


def seen(room):
    """All that is told of a room."""
    return (
        room.names(), room.runs(), len(room), [str(room.table(name)) for name in room.names()],
        [room.asked(name) for name in room.names()],
        [(room.hands(run), stands(room.way(run)), room.due(run), room.faith(run)) for run in room.runs()],
        [share_text(room, run, name) for run in room.runs() for name in room.hands(run)],
        [addable(room, run) for run in room.runs()],
    )


def addable(room, run):
    """What can be added again in a run, the next one ahead."""
    way, told = room.way(run), []
    while True:
        try:
            told.append(way.again())
        except NothingSaid:
            return told


def full_room():
    """A room of five hands, with a run `r` of three of them that has begun, one `s` that has ended, and a fresh `t`."""
    room = Room()
    for name, text in TABLES.items():
        room.seat(name, text)
    room.begin("r", "threehands", ["ben", "ann", "cy"])
    room.answer("r", (1, 4))
    room.answer("r", HALF)
    room.answer("r", 2)
    room.back("r")
    room.begin("s", "onecuts", ["cy", "ben"])
    room.finish("s")
    room.begin("t", "trimming", ["dan", "ann"])
    return room


class RoomCase(unittest.TestCase):
    def refused(self, room, kind, value, deed, *handed):
        """The deed is refused with this kind and value, and all is as it was, also what can be undone and redone."""
        before, kept = seen(room), room.double()
        with self.assertRaises(kind, msg=(deed, handed)) as caught:
            getattr(room, deed)(*handed)
        if value is not None:
            self.assertEqual(getattr(caught.exception, "many" if kind is NotEnded else "name"), value)
        self.assertEqual(seen(room), before)
        self.assertEqual(all_states(room), all_states(kept))


def all_states(room):
    """All that is told of a room and of what it was and can be once more, by undo and redo of a double."""
    other = room.double()
    back, forth = [], []
    while len(other):
        other.undo()
        back.append(seen(other))
    other = room.double()
    while True:
        try:
            other.redo()
        except NothingDone:
            return back, forth
        forth.append(seen(other))


class Hands(RoomCase):
    def test_at_first(self):
        room = Room()
        self.assertEqual((room.names(), room.runs(), len(room)), ([], [], 0))

    def test_seat(self):
        room = Room()
        self.assertIsNone(room.seat("ben", "1:1 1:3"))
        self.assertIsNone(room.seat(text="1:1", name="ann"))
        self.assertIsNone(room.seat("abcdefgh", "1:7"))
        self.assertEqual(room.names(), ["abcdefgh", "ann", "ben"])
        self.assertEqual([str(room.table(name)) for name in room.names()], ["1:7", "1:1", "1:1 1:3"])
        self.assertIs(type(room.table("ben")), Table)

    def test_seat_refused_in_order(self):
        room = full_room()
        for name in NO_NAMES:
            for text in ("1:1", "x", "1:0", ""):
                self.refused(room, NoName, None, "seat", name, text)
        for text in ("1:1", "x", "1:0", "1:1 1:3"):
            self.refused(room, Taken, "ben", "seat", "ben", text)
        for text in ("", "x", "1:1 ", " 1:1", "1:1  1:1", "01:1", "1", "0:1 x", "-1:1"):
            self.refused(room, NoText, None, "seat", "fay", text)
        for text in ("1:0", "0:1", "1000:1", "1:1000000000", " ".join(["1:1"] * 9)):
            self.refused(room, NoTable, None, "seat", "fay", text)

    def test_retell(self):
        room = full_room()
        self.assertIsNone(room.retell("ben", "3:2 1:0"))
        self.assertEqual(str(room.table("ben")), "3:2 1:0")
        self.assertIsNone(room.retell(name="ann", text="1:9"))
        self.assertEqual([str(room.table(name)) for name in ("ann", "ben", "cy")], ["1:9", "3:2 1:0", "2:1 1:0 1:5"])
        self.assertEqual(room.names(), sorted(TABLES))

    def test_retell_refused_in_order(self):
        room = full_room()
        for name in ("fay", "r", "", "Ann", "s"):
            for text in ("1:1", "x", "1:0"):
                self.refused(room, NoHand, name, "retell", name, text)
        self.refused(room, NoText, None, "retell", "ben", "1:0 x")
        self.refused(room, NoTable, None, "retell", "ben", "1:0")

    def test_leave(self):
        room = full_room()
        self.assertIsNone(room.leave(name="eve"))
        self.assertEqual(room.names(), ["ann", "ben", "cy", "dan"])
        room.seat("eve", "1:4")
        self.assertEqual(str(room.table("eve")), "1:4")
        room.drop("t")
        room.leave("dan")
        self.assertEqual(room.names(), ["ann", "ben", "cy", "eve"])

    def test_leave_refused_in_order(self):
        room = full_room()
        for name in ("fay", "r", "", "EVE"):
            self.refused(room, NoHand, name, "leave", name)
        for name, run in (("ann", "r"), ("ben", "r"), ("cy", "r"), ("dan", "t")):
            self.refused(room, Seated, run, "leave", name)
        room.drop("r")
        for name, run in (("ann", "t"), ("ben", "s"), ("cy", "s"), ("dan", "t")):
            self.refused(room, Seated, run, "leave", name)
        room.begin("aa", "halving", ["eve", "dan"])
        self.refused(room, Seated, "aa", "leave", "dan")

    def test_rename(self):
        room = full_room()
        before = seen(room)
        self.assertIsNone(room.rename("ann", "zoe"))
        self.assertEqual(room.names(), ["ben", "cy", "dan", "eve", "zoe"])
        self.assertEqual(str(room.table("zoe")), TABLES["ann"])
        self.assertEqual((room.hands("r"), room.hands("s"), room.hands("t")), (
            ["ben", "zoe", "cy"], ["cy", "ben"], ["dan", "zoe"],
        ))
        self.assertEqual(room.due("r")[0], "zoe")
        self.refused(room, NoHand, "ann", "table", "ann")
        self.refused(room, NoHand, "ann", "share", "s", "ann")
        self.assertIsNone(room.rename(new="ann", name="zoe"))
        self.assertEqual(seen(room)[3:], before[3:])

    def test_rename_to_the_name_of_a_run(self):
        room = full_room()
        room.rename("ann", "r")
        self.assertEqual((room.names()[-1], room.runs()), ("r", ["r", "s", "t"]))
        self.assertEqual(room.hands("r"), ["ben", "r", "cy"])

    def test_rename_refused_in_order(self):
        room = full_room()
        for name in ("fay", "r", "", "A"):
            for new in ("gus", "ben", "", "A1"):
                self.refused(room, NoHand, name, "rename", name, new)
        for new in NO_NAMES:
            self.refused(room, NoName, None, "rename", "ann", new)
        for new in TABLES:
            self.refused(room, Taken, new, "rename", "ann", new)
            self.refused(room, Taken, new, "rename", "eve", new)


class Runs(RoomCase):
    def test_begin(self):
        for word, many, way in WAYS:
            for names in itertools.islice(itertools.permutations(TABLES, many), 0, 60, 7):
                room = full_room()
                self.assertIsNone(room.begin("run", word, list(names)))
                self.assertEqual(room.runs(), ["r", "run", "s", "t"])
                self.assertEqual(room.hands("run"), list(names))
                self.assertEqual(stands(room.way("run")), stands(way()))
                self.assertEqual(room.due("run"), (names[0], way().due()))

    def test_begin_by_names(self):
        room = full_room()
        self.assertIsNone(room.begin(names=["eve", "ann"], run="u", word="halving"))
        self.assertEqual(str(room.way("u")), "halving 2:")

    def test_begin_refused_in_order(self):
        room = full_room()
        lists = (["ann", "ben"], ["ann"], [], ["fay"], ["ann", "ann"], ["ann", "ann", "fay"])
        for run in NO_NAMES:
            for word in ("onecuts", "none"):
                for names in lists:
                    self.refused(room, NoName, None, "begin", run, word, names)
        for word in ("onecuts", "none"):
            for names in lists:
                self.refused(room, Taken, "s", "begin", "s", word, names)
        for word in ("", "cut", "Halving", "onecut", "one cuts", "halving ", "threehands3"):
            for names in lists:
                self.refused(room, NoWay, None, "begin", "u", word, names)
        for word, many, way in WAYS:
            for names, name in (
                (["fay"], "fay"), (["ann", "ann", "fay"], "fay"), (["gus", "fay"], "gus"), (["ann", "", "fay"], ""),
                (["ann", "r"], "r"), (["ann", "ben", "cy", "dan", "eve", "fay"], "fay"), (["fay"] * 60, "fay"),
            ):
                self.refused(room, NoHand, name, "begin", "u", word, names)

    def test_begin_with_another_count_or_a_name_twice(self):
        room = full_room()
        names = list(TABLES)
        for word, counts in (("onecuts", (2,)), ("halving", (2, 3, 4)), ("trimming", (2, 3, 4)), ("threehands", (3,))):
            for many in range(6):
                if many not in counts:
                    self.refused(room, NoHands, None, "begin", "u", word, names[:many])
                elif many > 1:
                    for at, other in itertools.combinations(range(many), 2):
                        twice = names[:many]
                        twice[at] = twice[other]
                        self.refused(room, NoHands, None, "begin", "u", word, twice)
            self.refused(room, NoHands, None, "begin", "u", word, ["ann", "ann"] * 30)

    def test_a_list_that_is_changed_behind_the_call(self):
        room = full_room()
        names = ["eve", "ann", "ben"]
        room.begin("u", "halving", names)
        names[0] = "cy"
        names.append("dan")
        self.assertEqual(room.hands("u"), ["eve", "ann", "ben"])
        names = ["eve", "ann"]
        room.begin("v", "halving", names)
        self.assertEqual(names, ["eve", "ann"])

    def test_one_name_for_a_hand_and_for_a_run(self):
        room = full_room()
        room.begin("ann", "onecuts", ["ann", "ben"])
        room.seat("r", "1:5")
        self.assertEqual((room.names(), room.runs()), (
            ["ann", "ben", "cy", "dan", "eve", "r"], ["ann", "r", "s", "t"],
        ))
        room.answer("ann", HALF)
        room.leave("r")
        room.drop("ann")
        self.assertEqual((room.names(), room.runs()), (sorted(TABLES), ["r", "s", "t"]))

    def test_answer(self):
        room = full_room()
        self.assertIsNone(room.answer("t", (1, 3)))
        self.assertIsNone(room.answer(reply=(1, 4), run="t"))
        self.assertEqual(str(room.way("t")), "trimming 2: 1/3 1/4")
        self.assertEqual(addable(room, "r"), [2])
        room.answer("r", 2)
        self.assertEqual((addable(room, "r"), room.due("r")[1][0]), ([], "even"))

    def test_answer_refused_in_order(self):
        room = full_room()
        for run in ("u", "ann", "", "R"):
            for reply in (HALF, 0, None):
                self.refused(room, NoRun, run, "answer", run, reply)
        for reply in (HALF, 0, None, [1]):
            self.refused(room, Ended, None, "answer", "s", reply)
        for reply in (*NEVER, 4, (0, 1)):
            with self.assertRaises(NoReply, msg=reply) as caught:
                room.answer("r", reply)
            self.assertEqual(caught.exception.ask, room.way("r").due())
        for reply in (*NEVER, 0, 1):
            self.refused(room, NoReply, None, "answer", "t", reply)
        self.assertEqual(seen(room), seen(full_room()))
        self.assertEqual(all_states(room), all_states(full_room()))

    def test_honest(self):
        for word, many, way in WAYS:
            room = full_room()
            names = ["cy", "eve", "ben", "dan"][:many]
            room.begin("u", word, names)
            other, replies = way(), 0
            while not other.ended():
                ask = other.due()
                reply = reply_by(read_table(TABLES[names[ask[1]]]), ask)
                self.assertEqual(room.honest(run="u"), reply)
                other.answer(reply)
                replies += 1
                self.assertEqual(stands(room.way("u")), stands(other))
            self.assertEqual(len(room), len(full_room()) + 1 + replies)
            self.refused(room, Ended, None, "honest", "u")

    def test_honest_and_finish_by_the_table_as_it_is_now(self):
        room = full_room()
        room.retell("dan", "1:0 1:1")
        self.assertEqual(room.honest("t"), (3, 4))
        room.retell("ann", "1:1 7:0")
        self.assertEqual(room.honest("t"), (1, 16))
        room.undo()
        room.retell("ann", "7:0 1:1")
        self.assertEqual(room.finish("t"), 1)
        self.assertEqual(str(room.way("t")), "trimming 2: 3/4 3/4")

    def test_finish(self):
        for word, many, way in WAYS:
            names = ["dan", "cy", "ann", "eve"][:many]
            whole = way()
            run_by(whole, [read_table(TABLES[name]) for name in names])
            for given in range(len(whole)):
                room = full_room()
                room.begin("u", word, names)
                for step in range(given):
                    room.honest("u")
                deeds = len(room)
                self.assertEqual(room.finish(run="u"), len(whole) - given)
                self.assertEqual(stands(room.way("u")), stands(whole))
                self.assertEqual(len(room), deeds + 1)

    def test_finish_from_a_false_begin(self):
        room = full_room()
        room.answer("t", (9, 10))
        self.assertEqual(room.finish("t"), 1)
        self.assertEqual(str(room.way("t")), "trimming 2: 9/10 1/2")

    def test_finish_makes_an_end_of_what_could_be_added(self):
        room = full_room()
        room.finish("r")
        self.assertEqual(addable(room, "r"), [])

    def test_honest_and_finish_refused_in_order(self):
        room = full_room()
        for deed in ("honest", "finish"):
            for run in ("u", "ann", "", "S"):
                self.refused(room, NoRun, run, deed, run)
            self.refused(room, Ended, None, deed, "s")

    def test_back_and_again(self):
        room = full_room()
        self.assertEqual(room.back("r"), HALF)
        self.assertEqual(room.back(run="r"), (1, 4))
        self.assertEqual((str(room.way("r")), addable(room, "r")), ("threehands 0:", [(1, 4), HALF, 2]))
        self.assertEqual(room.again("r"), (1, 4))
        self.assertEqual(room.again(run="r"), HALF)
        self.assertEqual(room.again("r"), 2)
        self.refused(room, NothingSaid, None, "again", "r")
        self.assertEqual(str(room.way("r")), "threehands 0: 1/4 1/2 2")
        self.assertEqual((room.back("s"), room.back("s")), (0, (17, 20)))

    def test_back_and_again_refused_in_order(self):
        room = full_room()
        for deed in ("back", "again"):
            for run in ("u", "ann", "", "S"):
                self.refused(room, NoRun, run, deed, run)
            self.refused(room, NothingSaid, None, deed, "t")
        self.refused(room, NothingSaid, None, "again", "s")

    def test_twin(self):
        room = full_room()
        self.assertIsNone(room.twin("r", "u"))
        self.assertIsNone(room.twin(new="ann", run="s"))
        self.assertEqual(room.runs(), ["ann", "r", "s", "t", "u"])
        for run, twin in (("r", "u"), ("s", "ann")):
            self.assertEqual(room.hands(twin), room.hands(run))
            self.assertEqual(stands(room.way(twin)), stands(room.way(run)))
            self.assertEqual(addable(room, twin), addable(room, run))

    def test_a_twin_goes_on_by_itself(self):
        room = full_room()
        room.twin("r", "u")
        room.answer("u", 3)
        self.assertEqual((str(room.way("r")), addable(room, "r")), ("threehands 0: 1/4 1/2", [2]))
        self.assertEqual((str(room.way("u")), addable(room, "u")), ("threehands 0: 1/4 1/2 3", []))
        room.back("r")
        self.assertEqual(str(room.way("u")), "threehands 0: 1/4 1/2 3")
        room.drop("r")
        self.assertEqual(room.runs(), ["s", "t", "u"])

    def test_twin_refused_in_order(self):
        room = full_room()
        for run in ("u", "ann", "", "R"):
            for new in ("v", "s", "", "V"):
                self.refused(room, NoRun, run, "twin", run, new)
        for new in NO_NAMES:
            self.refused(room, NoName, None, "twin", "r", new)
        for new in ("r", "s", "t"):
            self.refused(room, Taken, new, "twin", "r", new)

    def test_drop(self):
        room = full_room()
        self.assertIsNone(room.drop("r"))
        self.assertEqual(room.runs(), ["s", "t"])
        self.refused(room, NoRun, "r", "drop", "r")
        self.assertIsNone(room.drop(run="s"))
        room.begin("r", "onecuts", ["eve", "ann"])
        self.assertEqual((room.runs(), str(room.way("r"))), (["r", "t"], "onecuts 0:"))
        for run in ("ann", "", "x"):
            self.refused(room, NoRun, run, "drop", run)

    def test_twelve_hands_and_runs(self):
        room = Room()
        names = [f"h{letter}" for letter in "lkjihgfedcba"]
        for name in names:
            room.seat(name, "1:1 2:3")
        for name in names:
            room.begin(name, "halving", [name, *[other for other in names if other != name][:3]])
            room.finish(name)
        self.assertEqual((room.names(), room.runs()), (sorted(names), sorted(names)))
        self.assertEqual(room.asked("hl"), sum(room.way(run).asked()[room.hands(run).index("hl")] for run in names))


class Asked(RoomCase):
    def test_names_and_runs_are_sorted(self):
        room = Room()
        for name in ("cy", "b", "a", "ab", "z", "aa"):
            room.seat(name, "1:1")
        for run in ("z", "c", "bb", "b"):
            room.begin(run, "onecuts", ["z", "a"])
        self.assertEqual(room.names(), ["a", "aa", "ab", "b", "cy", "z"])
        self.assertEqual(room.runs(), ["b", "bb", "c", "z"])

    def test_table(self):
        room = full_room()
        for name, text in TABLES.items():
            self.assertEqual(room.table(name), read_table(text))
        self.assertEqual(room.table(name="cy"), read_table(TABLES["cy"]))
        for name in ("fay", "r", "", "Ann"):
            self.refused(room, NoHand, name, "table", name)
            self.refused(room, NoHand, name, "asked", name)

    def test_of_no_run(self):
        room = full_room()
        for run in ("u", "ann", "", "R"):
            for asked in ("hands", "way", "due", "faith"):
                self.refused(room, NoRun, run, asked, run)
            for name in ("ann", "fay"):
                self.refused(room, NoRun, run, "share", run, name)

    def test_hands_in_their_order(self):
        room = full_room()
        self.assertEqual(room.hands("r"), ["ben", "ann", "cy"])
        self.assertEqual(room.hands(run="s"), ["cy", "ben"])

    def test_way_is_a_twin_which_goes_on_by_itself(self):
        room = full_room()
        before = seen(room)
        for run in ("r", "s", "t"):
            way = room.way(run=run)
            way.back() if len(way) else way.answer(HALF)
            self.assertEqual(seen(room), before)
        way = room.way("r")
        self.assertEqual(way.again(), 2)
        self.assertEqual(type(way), ThreeHands)
        way = room.way("t")
        room.answer("t", HALF)
        self.assertEqual(len(way), 0)

    def test_due(self):
        room = full_room()
        pieces = ((NOUGHT, (1, 4)), ((1, 4), HALF), (HALF, ONE))
        self.assertEqual(room.due("r"), ("ann", ("trim", 1, pieces)))
        self.assertEqual(room.due(run="t"), ("dan", ("cut", 0, NOUGHT, ONE, ONE, HALF)))
        self.assertIs(type(room.due("t")), tuple)
        self.assertIsNone(room.due("s"))

    def test_share(self):
        room = full_room()
        shares = room.way("s").shares()
        self.assertEqual(room.share("s", "cy"), shares[0])
        self.assertEqual(room.share(name="ben", run="s"), shares[1])
        self.assertIs(type(room.share("s", "ben")), Share)

    def test_share_refused_in_order(self):
        room = full_room()
        for run in ("r", "s", "t"):
            for name in ("fay", "eve", "", "r", "S"):
                self.refused(room, NoHand, name, "share", run, name)
        self.refused(room, NoHand, "ann", "share", "s", "ann")
        self.refused(room, NotEnded, 2, "share", "r", "ann")
        self.refused(room, NotEnded, 0, "share", "t", "ann")

    def test_faith(self):
        room = full_room()
        self.assertEqual(room.faith("r"), [("ben", 0), ("ann", None), ("cy", None)])
        self.assertEqual(room.faith(run="s"), [("cy", None), ("ben", None)])
        self.assertEqual(room.faith("t"), [("dan", None), ("ann", None)])

    def test_faith_by_the_tables_as_they_are_now(self):
        room = full_room()
        room.retell("ben", "1:1 1:1 2:1")
        self.assertEqual(room.faith("r"), [("ben", None), ("ann", None), ("cy", None)])
        room.retell("ben", "1:1 1:1 2:1 4:0")
        self.assertEqual(room.faith("r")[0], ("ben", 0))
        room.retell("ben", "1:1 1:1 1:1 1:0")
        self.assertEqual(room.faith("r")[0], ("ben", None))
        room.retell("ben", "1:1 3:2")
        self.assertEqual(room.faith("r")[0], ("ben", 1))
        room.retell("cy", "1:1")
        self.assertEqual(room.faith("s")[0], ("cy", 0))

    def test_faith_by_any_tables(self):
        source = Random(37)
        for word, many, way in WAYS:
            room = full_room()
            names = source.sample(list(TABLES), many)
            room.begin("u", word, names)
            while room.due("u") is not None:
                reply = legal_reply(source, room.due("u")[1])
                room.honest("u") if source.random() < 0.6 else room.answer("u", reply)
                told = [first_false(room.way("u"), at, room.table(name)) for at, name in enumerate(names)]
                self.assertEqual(room.faith("u"), list(zip(names, told)))

    def test_asked_over_all_runs(self):
        room = full_room()
        self.assertEqual([room.asked(name) for name in ("ann", "ben", "cy", "dan", "eve")], [0, 3, 1, 0, 0])
        room.answer("r", 3)
        room.finish("t")
        self.assertEqual([room.asked(name) for name in ("ann", "ben", "cy", "dan", "eve")], [2, 3, 1, 1, 0])
        room.back("r")
        self.assertEqual(room.asked(name="ann"), 1)
        room.drop("r")
        self.assertEqual([room.asked(name) for name in ("ann", "ben", "cy", "dan", "eve")], [1, 1, 1, 1, 0])

    def test_what_is_asked_changes_nothing_and_is_the_askers_own(self):
        room = full_room()
        before, states = seen(room), all_states(room)
        for told in (
            room.names(), room.runs(), room.hands("r"), room.faith("r"), room.table("ann").stretches(),
            room.way("s").log(), room.share("s", "ben").spans(),
        ):
            self.assertIs(type(told), list)
            told.append(None)
            told[0] = 7
        self.assertEqual((seen(room), all_states(room)), (before, states))


DEEDS = (
    ("seat", "fay", "1:1"), ("retell", "ben", "1:7"), ("retell", "ben", "1:1 1:3"), ("leave", "eve"),
    ("rename", "ann", "gus"), ("begin", "u", "halving", ["ann", "eve"]), ("answer", "t", HALF), ("answer", "r", 3),
    ("honest", "r"), ("honest", "t"), ("finish", "r"), ("finish", "t"), ("back", "r"), ("back", "s"), ("again", "r"),
    ("twin", "r", "u"), ("drop", "r"), ("drop", "s"),
)


class UndoAndRedo(RoomCase):
    def test_each_deed(self):
        for deed, *handed in DEEDS:
            room = full_room()
            before, states = seen(room), all_states(room)
            getattr(room, deed)(*handed)
            after = seen(room)
            self.assertEqual(len(room), before[2] + 1)
            for turn in range(2):
                self.assertIsNone(room.undo())
                self.assertEqual(seen(room), before, deed)
                self.assertEqual(all_states(room)[0], states[0])
                self.assertIsNone(room.redo())
                self.assertEqual(seen(room), after, deed)

    def test_all_the_way_back_and_forth(self):
        room = Room()
        states = [seen(room)]
        for name, text in TABLES.items():
            room.seat(name, text)
            states.append(seen(room))
        for deed, *handed in (
            ("begin", "r", "threehands", ["ben", "ann", "cy"]), ("honest", "r"), ("answer", "r", ONE), ("back", "r"),
            ("twin", "r", "q"), ("again", "r"), ("finish", "r"), ("retell", "ben", "1:1 1:3"), ("drop", "r"),
            ("rename", "ann", "r"), ("finish", "q"), ("leave", "eve"),
        ):
            getattr(room, deed)(*handed)
            states.append(seen(room))
        for turn in range(2):
            self.assertRaises(NothingDone, room.redo)
            for state in states[-2::-1]:
                room.undo()
                self.assertEqual(seen(room), state)
            self.assertRaises(NothingDone, room.undo)
            for state in states[1:]:
                room.redo()
                self.assertEqual(seen(room), state)

    def test_nothing_done(self):
        room = Room()
        self.refused(room, NothingDone, None, "undo")
        self.refused(room, NothingDone, None, "redo")
        self.refused(full_room(), NothingDone, None, "redo")

    def test_a_deed_makes_an_end_of_what_can_be_redone(self):
        for deed, *handed in DEEDS:
            room = full_room()
            room.seat("x", "1:1")
            room.seat("y", "1:1")
            room.undo()
            room.undo()
            getattr(room, deed)(*handed)
            state = seen(room)
            self.refused(room, NothingDone, None, "redo")
            self.assertEqual(seen(room), state)
            room.undo()
            self.assertEqual(seen(room), seen(full_room()))

    def test_a_deed_that_leaves_all_as_it_was_is_a_deed(self):
        room = full_room()
        room.seat("x", "1:1")
        room.undo()
        many = len(room)
        room.retell("ben", TABLES["ben"])
        self.assertEqual(len(room), many + 1)
        self.assertRaises(NothingDone, room.redo)
        room.undo()
        self.assertEqual(seen(room), seen(full_room()))

    def test_a_refused_one_is_none(self):
        for deed, *handed in (
            ("seat", "ann", "1:1"), ("retell", "ann", "x"), ("leave", "ann"), ("rename", "ann", "ann"),
            ("begin", "u", "onecuts", ["ann"]), ("answer", "r", 4), ("honest", "s"), ("finish", "s"), ("back", "t"),
            ("again", "t"), ("twin", "r", "s"), ("drop", "u"), ("share", "r", "ann"), ("table", "u"),
        ):
            room = full_room()
            room.drop("r")
            room.undo()
            many = len(room)
            self.assertRaises(CrumbError, getattr(room, deed), *handed)
            self.assertEqual(len(room), many)
            room.redo()
            self.assertEqual(room.runs(), ["s", "t"])

    def test_what_could_be_added_again_stands_as_it_did(self):
        room = full_room()
        room.back("r")
        room.answer("r", ONE)
        self.assertEqual(addable(room, "r"), [])
        room.undo()
        self.assertEqual(addable(room, "r"), [HALF, 2])
        room.undo()
        self.assertEqual(addable(room, "r"), [2])
        room.redo()
        room.redo()
        self.assertEqual(addable(room, "r"), [])

    def test_len(self):
        room = Room()
        for many in range(1, 5):
            room.seat("a" * many, "1:1")
            self.assertEqual(len(room), many)
        room.undo()
        room.undo()
        self.assertEqual(len(room), 2)
        room.redo()
        self.assertEqual(len(room), 3)
        room.leave("a")
        self.assertEqual(len(room), 4)

    def test_finish_is_one_deed(self):
        room = full_room()
        room.finish("r")
        room.undo()
        self.assertEqual(seen(room), seen(full_room()))
        room.redo()
        self.assertIsNone(room.due("r"))


class Doubles(RoomCase):
    def test_all_stands_as_in_it(self):
        room = full_room()
        for deed in (lambda: None, room.undo, room.undo, room.undo, room.redo):
            deed()
            double = room.double()
            self.assertIs(type(double), Room)
            self.assertEqual(seen(double), seen(room))
            self.assertEqual(all_states(double), all_states(room))

    def test_each_goes_on_by_itself(self):
        for deed, *handed in (*DEEDS, ("undo",), ("redo",)):
            for first in (0, 1):
                room = full_room()
                room.drop("t")
                room.undo()
                rooms = [room, room.double()]
                before, states = seen(room), all_states(room)
                getattr(rooms[first], deed)(*handed)
                self.assertEqual(seen(rooms[1 - first]), before)
                self.assertEqual(all_states(rooms[1 - first]), states)

    def test_two_rooms_have_nothing_in_common(self):
        one, other = Room(), Room()
        one.seat("ann", "1:1")
        one.seat("ben", "1:1")
        one.begin("r", "onecuts", ["ann", "ben"])
        self.assertEqual(seen(other), seen(Room()))


class Equality(RoomCase):
    def rooms(self):
        """Rooms of which no two are equal."""
        rooms = [Room(), full_room()]
        for deed, *handed in (
            ("seat", "fay", "1:1"), ("retell", "ben", "1:7"), ("leave", "eve"), ("rename", "ann", "gus"),
            ("begin", "u", "halving", ["ann", "eve"]), ("answer", "t", HALF), ("answer", "r", 3), ("again", "r"),
            ("finish", "r"), ("back", "r"), ("back", "s"), ("twin", "r", "u"), ("drop", "r"), ("drop", "s"),
            ("retell", "ben", "2:2 2:6"), ("begin", "u", "halving", ["eve", "ann"]),
            ("begin", "u", "trimming", ["ann", "eve"]), ("begin", "v", "halving", ["ann", "eve"]),
            ("begin", "u", "halving", ["ann", "dan"]), ("begin", "u", "onecuts", ["ann", "eve"]),
            ("begin", "u", "halving", ["ann", "eve", "ben"]), ("seat", "fay", "1:2"), ("seat", "gus", "1:1"),
        ):
            rooms.append(full_room())
            getattr(rooms[-1], deed)(*handed)
        return rooms

    def test_by_what_is_kept(self):
        rooms = self.rooms()
        for at, one in enumerate(rooms):
            for number, other in enumerate(rooms):
                self.assertIs(one == other, at == number, (at, number))
                self.assertIs(one != other, at != number)
                self.assertIs(one == other.double(), at == number)

    def test_whatever_can_be_undone(self):
        room = full_room()
        room.retell("ben", "1:1")
        self.assertFalse(room == full_room())
        room.retell("ben", TABLES["ben"])
        self.assertTrue(room == full_room())
        room.undo()
        room.undo()
        self.assertTrue(room == full_room())
        room.again("r")
        room.back("r")
        self.assertTrue(room == full_room())
        # What can be added again in a run doesn't count.
        room.twin("r", "q")
        room.back("r")
        room.answer("r", HALF)
        room.drop("q")
        self.assertEqual(addable(room, "r"), [])
        self.assertTrue(room == full_room())

    def test_whatever_the_order_in_which_it_came(self):
        one, other = Room(), Room()
        for room, names in ((one, ("ann", "ben")), (other, ("ben", "ann"))):
            for name in names:
                room.seat(name, TABLES[name])
            for run in names:
                room.begin(run, "onecuts", ["ann", "ben"])
        self.assertTrue(one == other)
        self.assertTrue(answered(one.way("ann"), [HALF]) == answered(other.way("ann"), [HALF]))

    def test_things_of_other_kinds(self):
        room = Room()
        for thing in (None, True, 0, "", [], (), ({}, {}), {}, object(), Room):
            self.assertIs(room == thing, False)
            self.assertIs(room != thing, True)
            self.assertIs(thing == room, False)


if __name__ == "__main__":
    unittest.main()
