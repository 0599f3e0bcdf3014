"""Points 40 and 41: a desk."""

import unittest
from random import Random

from halfcrumb.desk import Desk
from halfcrumb.errors import (
    CrumbError, Ended, NoHand, NoHands, NoLine, NoName, NoReply, NoRun, NoTable, NoText, NotEnded, NothingDone,
    NothingSaid, NoWay, NoWord, Seated, Taken,
)
from halfcrumb.room import Room
from halfcrumb.sharetext import read_share
from tests.test_room import NO_NAMES, all_states, full_room, seen

# The lines by which a desk has the room that test_room makes.
FULL = (
    "seat ann 1:1", "seat ben 1:1 1:3", "seat cy 2:1 1:0 1:5", "seat dan 1:3 1:1", "seat eve 1:0 1:1",
    "begin r threehands ben ann cy", "answer r 1/4", "answer r 1/2", "answer r 2", "back r", "begin s onecuts cy ben",
    "finish s", "begin t trimming dan ann",
)
FORMS = {
    "leave": 1, "rename": 2, "answer": 2, "twin": 2, "drop": 1, "undo": 0, "redo": 0, "honest": 1, "back": 1,
    "again": 1, "finish": 1, "hands": 0, "runs": 0, "table": 1, "way": 1, "due": 1, "share": 2, "faith": 1,
    "asked": 1, "same": 1, "copy": 1, "use": 1, "rooms": 0,
}


def full_desk():
    """A desk whose hall is such a room, beside an empty one and one like it."""
    desk = Desk()
    desk.told("copy den")
    for line in FULL:
        desk.told(line)
    desk.told("copy loft")
    return desk


def desk_seen(desk):
    """All that is told of a desk: each room, and which is in use."""
    words = desk.told("rooms")
    used = [word[:-1] for word in words.split(" ") if word.endswith("*")][0]
    rooms = {}
    for word in words.replace("*", "").split(" "):
        desk.told(f"use {word}")
        rooms[word] = (seen(desk.room()), all_states(desk.room()))
    desk.told(f"use {used}")
    return words, rooms


class DeskCase(unittest.TestCase):
    def answers(self, desk, *pairs):
        for line, answer in pairs:
            told = desk.told(line)
            self.assertIs(type(told), str)
            self.assertEqual(told, answer, line)

    def refused(self, desk, kind, line, /, **value):
        before = desk_seen(desk)
        with self.assertRaises(kind, msg=line) as caught:
            desk.told(line)
        for name, worth in value.items():
            self.assertEqual(getattr(caught.exception, name), worth, line)
        self.assertEqual(desk_seen(desk), before, line)


class Deeds(DeskCase):
    def test_at_first(self):
        desk = Desk()
        self.answers(desk, ("rooms", "hall*"), ("hands", "none"), ("runs", "none"))
        self.assertTrue(desk.room() == Room())
        self.assertEqual(len(desk.room()), 0)

    def test_the_same_as_in_a_room(self):
        desk = Desk()
        for line in FULL:
            desk.told(line)
        self.assertEqual(seen(desk.room()), seen(full_room()))
        self.assertEqual(all_states(desk.room()), all_states(full_room()))

    def test_done(self):
        self.answers(
            full_desk(), ("seat fay 1:1", "done"), ("seat gus 3:1 2:0 1:999999999", "done"),
            ("table gus", "3:1 2:0 1:999999999"),
            ("retell fay 1:2 1:3", "done"), ("table fay", "1:2 1:3"), ("retell fay 5:5", "done"), ("table fay", "5:5"),
            ("leave gus", "done"), ("hands", "ann ben cy dan eve fay"), ("rename fay abe", "done"),
            ("hands", "abe ann ben cy dan eve"), ("twin r q", "done"), ("runs", "q r s t"), ("drop r", "done"),
            ("runs", "q s t"), ("undo", "done"), ("runs", "q r s t"), ("undo", "done"), ("runs", "r s t"),
            ("redo", "done"), ("redo", "done"), ("runs", "q s t"), ("answer q 3", "done"),
            ("way q", "threehands 0: 1/4 1/2 3"),
        )

    def test_begin(self):
        for way, names, text, due in (
            ("onecuts", "eve ann", "onecuts 0:", "eve cut"), ("halving", "ann ben", "halving 2:", "ann cut"),
            ("halving", "cy ann ben", "halving 3:", "cy cut"), ("halving", "dan cy ann ben", "halving 4:", "dan cut"),
            ("trimming", "ann ben", "trimming 2:", "ann cut"), ("trimming", "ben ann cy", "trimming 3:", "ben cut"),
            ("trimming", "eve dan cy ben", "trimming 4:", "eve cut"),
            ("threehands", "eve dan cy", "threehands 0:", "eve cut"),
        ):
            desk = full_desk()
            self.answers(desk, (f"begin u {way} {names}", "done"), ("way u", text), ("due u", due))
            self.assertEqual(desk.room().hands("u"), names.split(" "))

    def test_replies_as_they_are_written(self):
        self.answers(
            full_desk(), ("again r", "2"), ("back r", "2"), ("back r", "1/2"), ("back r", "1/4"), ("again r", "1/4"),
            ("honest r", "17/24"), ("honest r", "1"), ("honest r", "13/24"), ("finish r", "5"),
            ("back s", "0"), ("back s", "17/20"), ("again s", "17/20"), ("honest s", "0"),
            ("honest t", "1/3"), ("honest t", "1/3"), ("back t", "1/3"),
        )
        self.answers(
            full_desk(), ("retell dan 1:1 1:0", "done"), ("answer t 1", "done"), ("back t", "1"), ("again t", "1"),
            ("honest t", "1/2"),
        )

    def test_finish(self):
        self.answers(full_desk(), ("finish t", "2"), ("finish r", "7"), ("way t", "trimming 2: 1/3 1/3"))

    def test_a_whole_number_is_a_place_or_a_number_by_the_ask(self):
        desk = full_desk()
        self.answers(
            desk, ("begin u threehands ann ben cy", "done"), ("answer u 0", "done"), ("answer u 1", "done"),
            ("due u", "ben trim"), ("answer u 1", "done"), ("due u", "ben even"), ("answer u 0", "done"),
            ("due u", "cy choose"), ("answer u 1", "done"), ("due u", "ben choose"), ("answer u 0", "done"),
            ("due u", "ben cut"), ("answer u 0", "done"), ("answer u 1", "done"), ("due u", "cy choose"),
            ("answer u 2", "done"), ("due u", "ann choose"), ("answer u 1", "done"), ("due u", "none"),
            ("way u", "threehands 0: 0 1 1 0 1 0 0 1 2 1"),
        )
        replies = [reply for ask, reply in desk.room().way("u").log()]
        self.assertEqual(replies, [(0, 1), (1, 1), 1, (0, 1), 1, 0, (0, 1), (1, 1), 2, 1])


class Asks(DeskCase):
    def test_some_and_none(self):
        self.answers(
            full_desk(), ("hands", "ann ben cy dan eve"), ("runs", "r s t"), ("table cy", "2:1 1:0 1:5"),
            ("way r", "threehands 0: 1/4 1/2"), ("way s", "onecuts 0: 17/20 0"), ("way t", "trimming 2:"),
            ("due r", "ann trim"), ("due s", "none"), ("due t", "dan cut"), ("share s cy", "17/20-1"),
            ("share s ben", "0-17/20"), ("faith r", "ben:0 ann:- cy:-"), ("faith s", "cy:- ben:-"),
            ("faith t", "dan:- ann:-"), ("asked ben", "3"), ("asked cy", "1"), ("asked eve", "0"),
        )

    def test_a_share_without_crumbs(self):
        self.answers(
            full_desk(), ("answer t 0", "done"), ("answer t 0", "done"), ("share t dan", "none"),
            ("share t ann", "0-1"), ("faith t", "dan:0 ann:-"),
        )

    def test_texts_of_shares_are_read_again(self):
        desk = full_desk()
        desk.told("finish r")
        room = desk.room()
        for name in ("ann", "ben", "cy"):
            self.assertEqual(read_share(desk.told(f"share r {name}")), room.share("r", name))

    def test_what_is_asked_is_no_deed(self):
        desk = full_desk()
        before = desk_seen(desk)
        for line in (
            "hands", "runs", "table ann", "way r", "due r", "share s ben", "faith r", "asked ann", "same den", "rooms",
        ):
            desk.told(line)
            self.assertEqual(desk_seen(desk), before)


class Rooms(DeskCase):
    def test_the_star(self):
        self.answers(
            full_desk(), ("rooms", "den hall* loft"), ("use den", "done"), ("rooms", "den* hall loft"),
            ("use den", "done"), ("rooms", "den* hall loft"), ("use loft", "done"), ("rooms", "den hall loft*"),
            ("copy attic", "done"), ("rooms", "attic den hall loft*"), ("copy abcdefgh", "done"),
            ("rooms", "abcdefgh attic den hall loft*"),
        )

    def test_same(self):
        self.answers(
            full_desk(), ("same hall", "yes"), ("same loft", "yes"), ("same den", "no"), ("drop t", "done"),
            ("same loft", "no"), ("same hall", "yes"), ("undo", "done"), ("same loft", "yes"), ("use den", "done"),
            ("same hall", "no"), ("same loft", "no"), ("same den", "yes"),
        )

    def test_copy_with_what_can_be_undone_and_redone(self):
        desk = full_desk()
        desk.told("undo")
        desk.told("undo")
        desk.told("copy x")
        hall = (seen(desk.room()), all_states(desk.room()))
        desk.told("use x")
        self.assertEqual((seen(desk.room()), all_states(desk.room())), hall)
        self.answers(desk, ("redo", "done"), ("redo", "done"), ("same loft", "yes"), ("same hall", "no"))

    def test_copy_over_a_room_that_is_there(self):
        self.answers(
            full_desk(), ("same den", "no"), ("copy den", "done"), ("same den", "yes"), ("rooms", "den hall* loft"),
            ("seat fay 1:1", "done"), ("same den", "no"), ("use den", "done"), ("hands", "ann ben cy dan eve"),
            ("use loft", "done"), ("hands", "ann ben cy dan eve"),
        )

    def test_copy_over_the_one_in_use(self):
        desk = full_desk()
        desk.told("undo")
        before = desk_seen(desk)
        self.answers(desk, ("copy hall", "done"), ("rooms", "den hall* loft"))
        self.assertEqual(desk_seen(desk), before)
        self.answers(desk, ("redo", "done"), ("runs", "r s t"), ("undo", "done"), ("undo", "done"), ("due s", "cy cut"))

    def test_each_room_goes_on_by_itself(self):
        desk = full_desk()
        self.answers(
            desk, ("use loft", "done"), ("answer r 3", "done"), ("leave eve", "done"), ("use hall", "done"),
            ("way r", "threehands 0: 1/4 1/2"), ("hands", "ann ben cy dan eve"), ("undo", "done"), ("runs", "r s"),
            ("use loft", "done"), ("runs", "r s t"), ("hands", "ann ben cy dan"),
        )

    def test_copy_and_use_are_no_deeds(self):
        desk = Desk()
        self.answers(desk, ("copy den", "done"), ("use den", "done"), ("copy hall", "done"))
        self.refused(desk, NothingDone, "undo")
        self.answers(
            desk, ("seat ann 1:1", "done"), ("seat ben 1:1", "done"), ("undo", "done"), ("copy x", "done"),
            ("use x", "done"), ("use den", "done"), ("redo", "done"), ("hands", "ann ben"),
        )
        self.assertEqual(len(desk.room()), 2)

    def test_the_told_room_is_a_double(self):
        desk = full_desk()
        before = desk_seen(desk)
        room = desk.room()
        self.assertIs(type(room), Room)
        self.assertEqual(all_states(room), all_states(full_room()))
        room.drop("t")
        room.undo()
        room.undo()
        room.seat("fay", "1:1")
        self.assertEqual(desk_seen(desk), before)
        room = desk.room()
        desk.told("drop r")
        self.assertEqual(room.runs(), ["r", "s", "t"])
        desk.told("use den")
        self.assertTrue(desk.room() == Room())

    def test_two_desks_have_nothing_in_common(self):
        one, other = Desk(), Desk()
        for line in (*FULL, "copy den", "use den"):
            one.told(line)
        self.answers(other, ("rooms", "hall*"), ("hands", "none"), ("runs", "none"))
        self.refused(other, NothingDone, "undo")


class NoSuchLine(DeskCase):
    def check(self, line):
        self.refused(self.desk, NoLine, line, line=line)

    def setUp(self):
        self.desk = full_desk()

    def test_another_first_word(self):
        for line in ("", " ", "x", "Hands", "hand", "seats ann 1:1", "*", "cut r 1", "told rooms", "HANDS", "double x"):
            self.check(line)

    def test_another_count_of_words(self):
        for word, many in FORMS.items():
            for count in {0, 1, 2, 3, 4, 9} - {many}:
                self.check(" ".join([word, *["r"] * count]))
        for line in (
            "seat", "seat fay", "retell", "retell ann", "begin", "begin u", "begin u halving", "begin u halving ann",
            "begin u halving ann ben cy dan eve", "begin u halving ann ben cy dan eve fay", "begin u x fay",
        ):
            self.check(line)

    def test_a_word_without_signs(self):
        for line in (
            " hands", "hands ", "hands  ", "  hands", "seat  fay 1:1", "seat fay  1:1", "seat fay 1:1 ",
            "seat fay 1:1  1:1", " seat fay 1:1", "table  ann", "table ann ", "answer r  1/2", "answer r ",
            "answer  1/2", "leave ", "copy ", "use ", "same ", "undo ", " undo", "begin u  ann ben",
            "begin u halving ann  ben", "begin u halving ann ben ", "share s ", "rename  ann", "rename ann ",
            "copy  x", "twin r ",
        ):
            self.check(line)

    def test_ahead_of_all_else(self):
        for line in (
            "answer r 1/2 x", "answer x y z", "copy A B", "use x y", "same x y", "leave fay gus", "table fay ",
            "answer r",
        ):
            self.check(line)


class Refused(DeskCase):
    def test_no_text_of_a_reply(self):
        desk = full_desk()
        for text in (
            "x", "1/1", "2/4", "01", "-0", "+1", "1/", "/2", "1/2/3", "0.5", "--1", "1/-2", "0/2", "none", "3/01",
            "1" * 41, f"1/{'3' * 41}", f"-{'9' * 41}", f"{'1' * 41}/7",
        ):
            for run in ("r", "t", "s", "nope", "R"):
                self.refused(desk, NoText, f"answer {run} {text}")

    def test_a_reply_of_forty_figures(self):
        desk = full_desk()
        text = f"{'1' * 40}/{'3' * 39}4"
        self.answers(desk, (f"answer t {text}", "done"), ("back t", text))
        for text in ("9" * 40, f"-{'9' * 40}", f"{'9' * 40}/{'7' * 39}8"):
            self.refused(desk, NoReply, f"answer t {text}", ask=desk.room().way("t").due())
            self.refused(desk, NoReply, f"answer r {text}", ask=desk.room().way("r").due())

    def test_no_reply(self):
        desk = full_desk()
        for text in ("1/2", "4", "-1", "3/2", "5"):
            self.refused(desk, NoReply, f"answer r {text}", ask=desk.room().due("r")[1])
        for text in ("2", "-1", "-1/2", "3/2", "7/6"):
            self.refused(desk, NoReply, f"answer t {text}", ask=desk.room().due("t")[1])

    def test_no_name(self):
        desk = full_desk()
        for word in NO_NAMES:
            if word != "" and " " not in word:
                self.refused(desk, NoName, f"copy {word}")
                self.refused(desk, NoName, f"seat {word} 1:1")
                self.refused(desk, NoName, f"begin {word} halving ann ben")
                self.refused(desk, NoName, f"twin r {word}")
                self.refused(desk, NoName, f"rename ann {word}")

    def test_no_word(self):
        desk = full_desk()
        for word in ("attic", "Hall", "hall*", "halls", "r", "x" * 9):
            self.refused(desk, NoWord, f"use {word}", name=word)
            self.refused(desk, NoWord, f"same {word}", name=word)

    def test_as_the_room_refuses(self):
        desk = full_desk()
        for kind, line, value in (
            (Taken, "seat ann x", {"name": "ann"}), (NoText, "seat fay 1:1 x", {}), (NoTable, "seat fay 1:0", {}),
            (NoText, "seat fay x", {}), (NoHand, "retell fay x", {"name": "fay"}), (NoText, "retell ann 1", {}),
            (NoTable, "retell ann 0:1", {}), (NoHand, "leave fay", {"name": "fay"}),
            (Seated, "leave ann", {"name": "r"}), (Seated, "leave dan", {"name": "t"}),
            (NoHand, "rename fay ann", {"name": "fay"}), (Taken, "rename ann ann", {"name": "ann"}),
            (Taken, "begin s x fay gus", {"name": "s"}), (NoWay, "begin u x fay gus", {}),
            (NoHand, "begin u halving ann fay", {"name": "fay"}), (NoHands, "begin u halving ann ann", {}),
            (NoHands, "begin u onecuts ann ben cy", {}), (NoHands, "begin u threehands ann ben", {}),
            (NoRun, "answer u 1", {"name": "u"}), (Ended, "answer s 1", {}), (Ended, "answer s 1/2", {}),
            (NoRun, "honest u", {"name": "u"}), (Ended, "honest s", {}), (NoRun, "finish u", {"name": "u"}),
            (Ended, "finish s", {}), (NoRun, "back u", {"name": "u"}), (NothingSaid, "back t", {}),
            (NoRun, "again u", {"name": "u"}), (NothingSaid, "again t", {}), (NoRun, "twin u r", {"name": "u"}),
            (Taken, "twin r s", {"name": "s"}), (NoRun, "drop u", {"name": "u"}), (NothingDone, "redo", {}),
            (NoHand, "table u", {"name": "u"}), (NoRun, "way u", {"name": "u"}), (NoRun, "due u", {"name": "u"}),
            (NoRun, "share u ann", {"name": "u"}), (NoHand, "share s ann", {"name": "ann"}),
            (NotEnded, "share r ann", {"many": 2}), (NoRun, "faith u", {"name": "u"}),
            (NoHand, "asked u", {"name": "u"}), (NoHand, "table Ann", {"name": "Ann"}),
        ):
            self.refused(desk, kind, line, **value)

    def test_what_is_refused_is_no_deed(self):
        desk = full_desk()
        desk.told("undo")
        for line in (
            "undos", "answer r x", "copy A", "use x", "same x", "leave ann", "answer r 9", "back t", "share r ann",
        ):
            self.assertRaises(CrumbError, desk.told, line)
        self.answers(desk, ("redo", "done"), ("same loft", "yes"))

    def test_any_lines(self):
        source = Random(41)
        words = [
            *FORMS, "seat", "retell", "begin", "ann", "ben", "cy", "r", "s", "t", "u", "hall", "den", "1", "1/2", "1:1",
            "halving", "onecuts", "X", "",
        ]
        desk = full_desk()
        done = 0
        for row in range(1500):
            line = " ".join(source.choice(words) for word in range(source.randint(1, 5)))
            before = desk_seen(desk) if row % 10 == 0 else None
            try:
                self.assertIs(type(desk.told(line)), str)
                done += 1
            except CrumbError:
                if before is not None:
                    self.assertEqual(desk_seen(desk), before)
        self.assertGreater(done, 20)


if __name__ == "__main__":
    unittest.main()
