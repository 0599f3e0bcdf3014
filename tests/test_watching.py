"""Point 18: watchers."""

import unittest
from random import Random

from halfcrumb.errors import Ended, NoName, NoReply, NothingSaid, NoWord, Taken
from halfcrumb.halving import Halving
from halfcrumb.onecuts import OneCuts
from halfcrumb.threehands import ThreeHands
from halfcrumb.watching import Watcher
from tests.common import MAKINGS, NEVER, run_at_random, stands

NO_WORDS = (
    "", "abcdefghi", "A", "Ab", "aB", "a b", " a", "a ", " ", "a1", "1", "a-b", "a_b", "a.", "~", "ab\n", "\u00e4",
    "\u00df", "a" * 400, None, True, 1, ["a"], ("a",), ["a", "b"],
)


def watched(way, *words):
    """A watcher of a way by some words."""
    watcher = Watcher()
    for word in words:
        watcher.watch(way, word)
    return watcher


class Words(unittest.TestCase):
    def test_words(self):
        for word in ("a", "z", "abcdefgh", "zzzzzzzz", "way"):
            way = OneCuts()
            watcher = Watcher()
            self.assertIsNone(watcher.watch(way, word))
            way.answer((1, 2))
            self.assertEqual(watcher.heard(), [("answer", word, (1, 2))])
            self.assertIsNone(watcher.leave(word))

    def test_by_names(self):
        way, watcher = OneCuts(), Watcher()
        watcher.watch(way=way, word="one")
        way.answer((1, 2))
        watcher.leave(word="one")
        way.answer(0)
        self.assertEqual(watcher.heard(), [("answer", "one", (1, 2))])

    def test_no_name(self):
        for word in NO_WORDS:
            way, watcher = OneCuts(), Watcher()
            self.assertRaises(NoName, watcher.watch, way, word)
            way.answer((1, 2))
            self.assertEqual(watcher.heard(), [])

    def test_taken(self):
        one, other = OneCuts(), Halving()
        watcher = watched(one, "one", "two")
        for way in (one, other):
            with self.assertRaises(Taken) as caught:
                watcher.watch(way, "one")
            self.assertEqual(caught.exception.name, "one")
        other.answer((1, 2))
        self.assertEqual(watcher.heard(), [])
        one.answer((1, 3))
        self.assertEqual(watcher.heard(), [("answer", "one", (1, 3)), ("answer", "two", (1, 3))])

    def test_no_word(self):
        watcher = watched(OneCuts(), "one")
        for word in ("two", "on", "ones", *NO_WORDS):
            with self.assertRaises(NoWord) as caught:
                watcher.leave(word)
            self.assertEqual(caught.exception.name, word)
        watcher.leave("one")
        with self.assertRaises(NoWord) as caught:
            watcher.leave("one")
        self.assertEqual(caught.exception.name, "one")

    def test_each_watcher_has_words_of_its_own(self):
        way = OneCuts()
        one, other = watched(way, "way"), watched(way, "way")
        one.leave("way")
        way.answer((1, 2))
        self.assertEqual((one.heard(), other.heard()), ([], [("answer", "way", (1, 2))]))
        other.leave("way")
        self.assertRaises(NoWord, one.leave, "way")


class Heard(unittest.TestCase):
    def test_in_order_and_once(self):
        way = OneCuts()
        watcher = watched(way, "way")
        self.assertEqual(watcher.heard(), [])
        way.answer((1, 2))
        way.answer(1)
        way.back()
        self.assertEqual(
            watcher.heard(), [("answer", "way", (1, 2)), ("answer", "way", 1), ("back", "way", 1)],
        )
        self.assertEqual(watcher.heard(), [])
        way.again()
        way.back()
        way.answer(0)
        self.assertEqual(watcher.heard(), [("again", "way", 1), ("back", "way", 1), ("answer", "way", 0)])
        self.assertEqual(watcher.heard(), [])

    def test_each_way_tells_all_its_deeds(self):
        source = Random(18)
        for kind, number in MAKINGS:
            way = kind(number)
            watcher = watched(way, "way")
            replies = [reply for ask, reply in run_at_random(source, way).log()]
            taken = [way.back() for reply in replies]
            added = [way.again() for reply in replies]
            deeds = [("answer", "way", reply) for reply in replies]
            deeds += [("back", "way", reply) for reply in taken] + [("again", "way", reply) for reply in added]
            self.assertEqual(watcher.heard(), deeds)

    def test_several_ways(self):
        one, other = OneCuts(), ThreeHands(1)
        watcher = watched(one, "one")
        watcher.watch(other, "other")
        other.answer((1, 4))
        one.answer((1, 2))
        other.back()
        one.answer(0)
        self.assertEqual(watcher.heard(), [
            ("answer", "other", (1, 4)), ("answer", "one", (1, 2)), ("back", "other", (1, 4)), ("answer", "one", 0),
        ])

    def test_several_words_in_the_order_in_which_they_began(self):
        way = OneCuts()
        watcher = watched(way, "zz", "aa", "mm")
        way.answer((1, 2))
        self.assertEqual([word for deed, word, reply in watcher.heard()], ["zz", "aa", "mm"])
        watcher.leave("zz")
        way.back()
        watcher.watch(way, "zz")
        way.again()
        self.assertEqual(watcher.heard(), [
            ("back", "aa", (1, 2)), ("back", "mm", (1, 2)),
            ("again", "aa", (1, 2)), ("again", "mm", (1, 2)), ("again", "zz", (1, 2)),
        ])

    def test_several_watchers(self):
        way = OneCuts()
        one, other = watched(way, "one"), watched(way, "two", "three")
        way.answer((1, 2))
        self.assertEqual(one.heard(), [("answer", "one", (1, 2))])
        way.back()
        self.assertEqual(one.heard(), [("back", "one", (1, 2))])
        self.assertEqual(other.heard(), [
            ("answer", "two", (1, 2)), ("answer", "three", (1, 2)), ("back", "two", (1, 2)), ("back", "three", (1, 2)),
        ])

    def test_a_word_goes_over_to_another_way(self):
        one, other = OneCuts(), OneCuts(1)
        watcher = watched(one, "way")
        one.answer((1, 2))
        watcher.leave("way")
        watcher.watch(other, "way")
        one.answer(0)
        other.answer((1, 3))
        self.assertEqual(watcher.heard(), [("answer", "way", (1, 2)), ("answer", "way", (1, 3))])

    def test_only_while_it_watches(self):
        way = OneCuts()
        way.answer((1, 2))
        watcher = watched(way, "way")
        way.back()
        watcher.leave("way")
        way.again()
        self.assertEqual(watcher.heard(), [("back", "way", (1, 2))])
        way.answer(0)
        self.assertEqual(watcher.heard(), [])

    def test_what_was_heard_is_told_behind_leave(self):
        way = OneCuts()
        watcher = watched(way, "one", "two")
        way.answer((1, 2))
        watcher.leave("one")
        watcher.leave("two")
        self.assertEqual(watcher.heard(), [("answer", "one", (1, 2)), ("answer", "two", (1, 2))])
        self.assertEqual(watcher.heard(), [])

    def test_what_was_refused_is_not_heard_of(self):
        way = OneCuts()
        watcher = watched(way, "way")
        for reply in NEVER:
            self.assertRaises(NoReply, way.answer, reply)
        self.assertRaises(NothingSaid, way.back)
        self.assertRaises(NothingSaid, way.again)
        self.assertEqual(watcher.heard(), [])
        way.answer((1, 2))
        way.answer(0)
        watcher.heard()
        self.assertRaises(Ended, way.answer, 0)
        self.assertEqual(watcher.heard(), [])

    def test_what_is_asked_is_not_heard_of(self):
        way = OneCuts()
        watcher = watched(way, "way")
        stands(way)
        way.twin()
        self.assertEqual(watcher.heard(), [])

    def test_a_twin_is_not_watched(self):
        way = OneCuts()
        watcher = watched(way, "way")
        way.answer((1, 2))
        twin = way.twin()
        twin.answer(0)
        twin.back()
        self.assertEqual(watcher.heard(), [("answer", "way", (1, 2))])
        watcher.watch(twin, "twin")
        twin.again()
        way.answer(1)
        self.assertEqual(watcher.heard(), [("again", "twin", 0), ("answer", "way", 1)])

    def test_equal_ways_are_told_apart(self):
        one, other = OneCuts(), OneCuts()
        watcher = watched(one, "one")
        watcher.watch(other, "other")
        watcher.leave("other")
        one.answer((1, 2))
        self.assertEqual(watcher.heard(), [("answer", "one", (1, 2))])

    def test_told_lists_are_the_askers_own(self):
        way = OneCuts()
        watcher = watched(way, "way")
        way.answer((1, 2))
        told = watcher.heard()
        way.answer(0)
        self.assertEqual(told, [("answer", "way", (1, 2))])
        told.append(None)
        empty = Watcher().heard()
        empty.append(None)
        self.assertEqual(watcher.heard(), [("answer", "way", 0)])
        nothing = watcher.heard()
        nothing.append(None)
        self.assertEqual(watcher.heard(), [])

    def test_watching_leaves_the_way_as_it_is(self):
        way, other = Halving(3), Halving(3)
        before = stands(way)
        watcher = watched(way, "way", "more")
        self.assertEqual(stands(way), before)
        self.assertTrue(way == other and other == way)
        watcher.leave("way")
        self.assertEqual(stands(way), before)


if __name__ == "__main__":
    unittest.main()
