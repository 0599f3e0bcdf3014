"""Points 31 and 32: a thread of beads."""

import itertools
import unittest
from random import Random

from halfcrumb.beads import fewest_cuts
from halfcrumb.errors import CrumbError, NoBeads, NoCut, NoHand, NothingDone, Odd
from halfcrumb.thread import Thread
from tests.test_beads import parted_evenly, some_beads

BIG = 10 ** 40 - 1


def seen(thread):
    """All that is told of a thread."""
    return (
        thread.cuts(), thread.begins(), thread.pieces(), thread.counts(0), thread.counts(1), thread.even(),
        len(thread), str(thread),
    )


def cut_at(beads, *places):
    """A thread of these beads with these cuts."""
    thread = Thread(beads)
    for at in places:
        thread.cut(at)
    return thread


def deeds():
    """Each deed by a name, as a call on a thread of the beads aabb."""
    return {
        "cut": lambda thread: thread.cut(3), "mend": lambda thread: thread.mend(1),
        "mend the last": lambda thread: thread.mend(), "flip": lambda thread: thread.flip(),
        "settle": lambda thread: thread.settle(),
    }


class Making(unittest.TestCase):
    def test_of_beads(self):
        thread = Thread("abcab")
        self.assertEqual(seen(thread), ([], 0, ["abcab"], [2, 2, 1], [0, 0, 0], False, 5, "0:abcab"))
        self.assertEqual(seen(Thread(beads="a")), ([], 0, ["a"], [1, 0, 0], [0, 0, 0], False, 1, "0:a"))
        self.assertEqual(len(Thread("abc" * 8)), 24)

    def test_of_no_beads(self):
        thread = Thread("")
        self.assertEqual(seen(thread), ([], 0, [""], [0, 0, 0], [0, 0, 0], True, 0, "0:"))
        self.assertEqual(thread.settle(), [])
        thread.flip()
        self.assertEqual(seen(thread), ([], 1, [""], [0, 0, 0], [0, 0, 0], True, 0, "1:"))

    def test_refused(self):
        for text, at in (("d", 0), ("aab b", 3), ("a" * 25, 24), ("ABC", 0), ("c" * 24 + "~", 24)):
            with self.assertRaises(NoBeads) as caught:
                Thread(text)
            self.assertEqual(caught.exception.at, at)


class Cutting(unittest.TestCase):
    def refused(self, thread, deed, *handed, at):
        before = seen(thread)
        with self.assertRaises(NoCut) as caught:
            getattr(thread, deed)(*handed)
        self.assertEqual(caught.exception.at, at)
        self.assertEqual(seen(thread), before)

    def test_cut(self):
        thread = Thread("aabbcc")
        for at, cuts in ((3, [3]), (1, [1, 3]), (5, [1, 3, 5]), (2, [1, 2, 3, 5]), (4, [1, 2, 3, 4, 5])):
            self.assertIsNone(thread.cut(at))
            self.assertEqual(thread.cuts(), cuts)

    def test_cut_refused(self):
        for beads in ("", "a", "ab", "aabbcc", "c" * 24):
            for at in (0, -1, len(beads), len(beads) + 1, 25, -BIG, BIG):
                self.refused(Thread(beads), "cut", at, at=at)
        self.refused(Thread("a"), "cut", 1, at=1)
        for at in (1, 3, 5):
            self.refused(cut_at("aabbcc", 3, 5, 1), "cut", at, at=at)

    def test_mend(self):
        thread = cut_at("aabbcc", 1, 2, 3, 5)
        self.assertIsNone(thread.mend(2))
        self.assertEqual(thread.cuts(), [1, 3, 5])
        self.assertIsNone(thread.mend(at=1))
        self.assertEqual(thread.cuts(), [3, 5])
        self.assertIsNone(thread.mend())
        self.assertEqual(thread.cuts(), [3])
        self.assertIsNone(thread.mend(None))
        self.assertEqual(thread.cuts(), [])

    def test_mend_takes_the_greatest_cut_away(self):
        thread = cut_at("aabbcc", 5, 2, 4, 1)
        for cuts in ([1, 2, 4], [1, 2], [1], []):
            thread.mend()
            self.assertEqual(thread.cuts(), cuts)

    def test_mend_refused(self):
        for at in (0, 2, 4, -1, 6, 7, BIG, -BIG):
            self.refused(cut_at("aabbcc", 1, 3, 5), "mend", at, at=at)
        for beads in ("", "a", "aabb"):
            self.refused(Thread(beads), "mend", at=None)
            self.refused(Thread(beads), "mend", None, at=None)
            self.refused(Thread(beads), "mend", 1, at=1)

    def test_a_truth_is_no_number(self):
        self.refused(Thread("aabb"), "cut", True, at=True)
        self.refused(cut_at("aabb", 1, 2), "mend", True, at=True)
        for hand in (True, False):
            self.assertRaises(NoHand, Thread("aabb").counts, hand)

    def test_flip(self):
        thread = cut_at("aab", 1)
        for first, counts in ((1, [1, 1, 0]), (0, [1, 0, 0]), (1, [1, 1, 0])):
            self.assertIsNone(thread.flip())
            self.assertEqual((thread.begins(), thread.counts(0), thread.cuts()), (first, counts, [1]))

    def test_settle(self):
        source = Random(31)
        for row in range(40):
            beads = some_beads(source, source.randint(0, 6))
            thread = Thread(beads)
            for at in range(1, len(beads), 3):
                thread.cut(at)
            if row % 2:
                thread.flip()
            told = thread.settle()
            self.assertIs(type(told), list)
            self.assertEqual(told, thread.cuts())
            self.assertEqual(len(told), len(fewest_cuts(beads)))
            self.assertTrue(parted_evenly(beads, told) and thread.even())
            self.assertEqual(thread.begins(), row % 2)
            kept = list(told)
            told.append(9)
            self.assertEqual(thread.cuts(), kept)

    def test_settle_refused(self):
        for beads, kind in (("a", "a"), ("cb", "b"), ("aabbc", "c"), ("abc", "a")):
            thread = Thread(beads)
            thread.flip()
            thread.flip()
            thread.undo()
            before = seen(thread)
            with self.assertRaises(Odd) as caught:
                thread.settle()
            self.assertEqual(caught.exception.kind, kind)
            self.assertEqual(seen(thread), before)
            thread.again()
            self.assertEqual(thread.begins(), 0)


class UndoAndAgain(unittest.TestCase):
    def test_each_deed(self):
        for name, deed in deeds().items():
            thread = cut_at("aabb", 1, 2)
            before = seen(thread)
            deed(thread)
            after = seen(thread)
            self.assertNotEqual(after, before, name)
            for turn in range(2):
                self.assertIsNone(thread.undo())
                self.assertEqual(seen(thread), before, name)
                self.assertIsNone(thread.again())
                self.assertEqual(seen(thread), after, name)

    def test_all_the_way(self):
        thread = Thread("aabbcc")
        states = [seen(thread)]
        for deed in (
            lambda: thread.cut(2), lambda: thread.cut(4), lambda: thread.flip(), lambda: thread.mend(2),
            lambda: thread.settle(), lambda: thread.settle(), lambda: thread.mend(), lambda: thread.flip(),
        ):
            deed()
            states.append(seen(thread))
        for turn in range(2):
            self.assertRaises(NothingDone, thread.again)
            for state in states[-2::-1]:
                thread.undo()
                self.assertEqual(seen(thread), state)
            self.assertRaises(NothingDone, thread.undo)
            for state in states[1:]:
                thread.again()
                self.assertEqual(seen(thread), state)

    def test_nothing_done(self):
        thread = Thread("aabb")
        self.assertRaises(NothingDone, thread.undo)
        self.assertRaises(NothingDone, thread.again)
        self.assertEqual(seen(thread), seen(Thread("aabb")))

    def test_a_deed_makes_an_end_of_what_could_be_done_again(self):
        for name, deed in deeds().items():
            thread = cut_at("aabb", 1, 2)
            thread.flip()
            thread.flip()
            thread.undo()
            thread.undo()
            deed(thread)
            state = seen(thread)
            self.assertRaises(NothingDone, thread.again)
            self.assertEqual(seen(thread), state, name)

    def test_also_where_it_leaves_all_as_it_was(self):
        thread = Thread("aabb")
        thread.settle()
        thread.flip()
        thread.undo()
        state = seen(thread)
        thread.settle()
        self.assertEqual(seen(thread), state)
        self.assertRaises(NothingDone, thread.again)
        thread.undo()
        self.assertEqual(seen(thread), state)
        thread.undo()
        self.assertEqual(thread.cuts(), [])
        self.assertRaises(NothingDone, thread.undo)

    def test_a_refused_deed_does_not(self):
        for deed, handed in (("cut", (1,)), ("cut", (0,)), ("mend", (3,)), ("settle", ()), ("counts", (2,))):
            thread = cut_at("aab", 1)
            thread.flip()
            thread.undo()
            self.assertRaises(CrumbError, getattr(thread, deed), *handed)
            thread.again()
            self.assertEqual(thread.begins(), 1)
            thread.undo()
            thread.undo()
            self.assertEqual(seen(thread), seen(Thread("aab")))
            self.assertRaises(NothingDone, thread.undo)

    def test_what_else_could_be_done_again_stays(self):
        thread = cut_at("aabb", 1, 2, 3)
        for step in range(3):
            thread.undo()
        thread.again()
        self.assertEqual(thread.cuts(), [1])
        thread.again()
        thread.undo()
        thread.again()
        thread.again()
        self.assertEqual(thread.cuts(), [1, 2, 3])


class Told(unittest.TestCase):
    def test_pieces_and_text(self):
        for beads, cuts, first, pieces, text in (
            ("aabbcc", [], 0, ["aabbcc"], "0:aabbcc"),
            ("aabbcc", [3], 0, ["aab", "bcc"], "0:aab|bcc"),
            ("aabbcc", [1, 5], 1, ["a", "abbc", "c"], "1:a|abbc|c"),
            ("abc", [1, 2], 1, ["a", "b", "c"], "1:a|b|c"),
        ):
            thread = cut_at(beads, *cuts)
            if first:
                thread.flip()
            self.assertEqual((thread.cuts(), thread.begins()), (cuts, first))
            self.assertEqual((thread.pieces(), str(thread), len(thread)), (pieces, text, len(beads)))

    def test_counts(self):
        thread = cut_at("abcaabbcc", 2, 5, 6)
        self.assertEqual((thread.counts(0), thread.counts(1)), ([1, 2, 0], [2, 1, 3]))
        thread.flip()
        self.assertEqual((thread.counts(0), thread.counts(hand=1)), ([2, 1, 3], [1, 2, 0]))

    def test_counts_of_another_hand(self):
        for hand in (2, -1, 3, BIG, -BIG):
            with self.assertRaises(NoHand) as caught:
                Thread("aabb").counts(hand)
            self.assertEqual(caught.exception.name, hand)

    def test_even(self):
        for beads in ("aabb", "abba", "abcabc", "aab", "ccc"):
            for many in range(4):
                for cuts in itertools.combinations(range(1, len(beads)), many):
                    thread = cut_at(beads, *cuts)
                    self.assertIs(thread.even(), parted_evenly(beads, cuts))
                    self.assertIs(thread.even(), thread.counts(0) == thread.counts(1))
                    thread.flip()
                    self.assertIs(thread.even(), parted_evenly(beads, cuts))

    def test_told_lists_are_the_askers_own(self):
        thread = cut_at("aabb", 1, 3)
        before = seen(thread)
        for told in (thread.cuts(), thread.pieces(), thread.counts(0), thread.counts(1)):
            self.assertIs(type(told), list)
            told[0] = None
            told.append(7)
        self.assertEqual(seen(thread), before)


class Twins(unittest.TestCase):
    def history(self):
        """A thread with four deeds that can be undone and two that can be done again."""
        thread = cut_at("aabbcc", 1, 4)
        thread.flip()
        thread.settle()
        thread.mend()
        thread.flip()
        thread.undo()
        thread.undo()
        return thread

    def test_alike_all_the_way(self):
        thread, twin = self.history(), self.history().twin()
        self.assertIs(type(twin), Thread)
        self.assertEqual(seen(twin), seen(thread))
        for deed, many in (("again", 2), ("undo", 6)):
            for step in range(many):
                getattr(thread, deed)()
                getattr(twin, deed)()
                self.assertEqual(seen(twin), seen(thread))
            self.assertRaises(NothingDone, getattr(twin, deed))

    def test_each_goes_on_by_itself(self):
        for deed in ("again", "undo", "flip", "mend"):
            thread = self.history()
            twin = thread.twin()
            for one, other in ((thread, twin), (twin, thread)):
                before = seen(other)
                getattr(one, deed)()
                self.assertEqual(seen(other), before)
            self.assertEqual(seen(thread), seen(twin))

    def test_what_can_be_done_again_goes_on_by_itself(self):
        thread = self.history()
        twin = thread.twin()
        thread.flip()
        self.assertRaises(NothingDone, thread.again)
        twin.again()
        twin.again()
        self.assertRaises(NothingDone, twin.again)

    def test_two_threads_have_nothing_in_common(self):
        one, other = Thread("aabb"), Thread("aabb")
        one.cut(1)
        one.flip()
        self.assertEqual(seen(other), seen(Thread("aabb")))
        self.assertRaises(NothingDone, other.undo)


class Equality(unittest.TestCase):
    def test_by_beads_cuts_and_first_hand(self):
        flipped = cut_at("aabb", 2)
        flipped.flip()
        threads = [
            Thread(""), Thread("aabb"), Thread("abab"), cut_at("aabb", 1), cut_at("aabb", 2), cut_at("aabb", 1, 2),
            flipped, cut_at("abab", 2),
        ]
        for at, one in enumerate(threads):
            for number, other in enumerate(threads):
                self.assertIs(one == other, at == number)
                self.assertIs(one != other, at != number)
                self.assertIs(one == other.twin(), at == number)

    def test_whatever_can_be_undone(self):
        thread = cut_at("aabb", 3, 1)
        thread.flip()
        thread.flip()
        self.assertTrue(thread == cut_at("aabb", 1, 3))
        thread.undo()
        self.assertFalse(thread == cut_at("aabb", 1, 3))

    def test_things_of_other_kinds(self):
        thread = Thread("")
        for thing in (None, "", "0:", 0, [], (), [""], {}, object(), Thread, False):
            self.assertIs(thread == thing, False)
            self.assertIs(thread != thing, True)
            self.assertIs(thing == thread, False)


if __name__ == "__main__":
    unittest.main()
