"""Points 29 and 30: beads, and the fewest cuts that part them evenly."""

import itertools
import unittest
from random import Random

from halfcrumb.beads import fewest_cuts
from halfcrumb.errors import NoBeads, Odd
from halfcrumb.lookers import is_even


def parted_evenly(beads, cuts):
    """Whether each letter is as often in the one hand's pieces as in the other's, bead by bead."""
    balance = {}
    for at, bead in enumerate(beads):
        turn = sum(cut <= at for cut in cuts) % 2
        balance[bead] = balance.get(bead, 0) + (-1 if turn else 1)
    return not any(balance.values())


def some_beads(source, pairs, kinds="abc"):
    """Some beads, each kind an even number of times."""
    beads = [source.choice(kinds) for pair in range(pairs)] * 2
    source.shuffle(beads)
    return "".join(beads)


class Fewest(unittest.TestCase):
    def check(self, beads, many=None):
        cuts = fewest_cuts(beads)
        self.assertIs(type(cuts), list)
        self.assertTrue(all(type(cut) is int for cut in cuts))
        self.assertEqual(cuts, sorted(set(cuts)), beads)
        self.assertTrue(all(1 <= cut < len(beads) for cut in cuts), beads)
        self.assertTrue(parted_evenly(beads, cuts), f"{beads}: {cuts}")
        self.assertLessEqual(len(cuts), len(set(beads)))
        for fewer in range(len(cuts)):
            for others in itertools.combinations(range(1, len(beads)), fewer):
                self.assertFalse(parted_evenly(beads, others), f"{beads}: {cuts}, but {others}")
        if many is not None:
            self.assertEqual(len(cuts), many, beads)

    def test_no_beads(self):
        self.assertEqual(fewest_cuts(""), [])

    def test_one_kind(self):
        self.assertEqual(fewest_cuts("aa"), [1])
        self.assertEqual(fewest_cuts("cccc"), [2])
        self.check("b" * 24, 1)

    def test_two_kinds(self):
        self.check("abab", 1)
        self.check("abba", 1)
        self.check("aabb", 2)
        self.check("aaaacc", 2)
        self.check("ccaacc", 1)
        self.check("bcbc" * 6, 1)

    def test_three_kinds(self):
        self.check("abcabc", 1)
        self.check("abccba", 1)
        self.check("aabbcc", 3)
        self.check("abacbc")
        self.check("aaaabbbbbbcccc", 3)

    def test_twenty_four_beads(self):
        self.check("a" * 8 + "b" * 8 + "c" * 8, 3)
        self.check("abc" * 8, 1)
        self.check("a" * 2 + "b" * 20 + "c" * 2)
        self.check("ab" * 6 + "cc" * 6)

    def test_all_beads_of_up_to_six(self):
        for many in (2, 4, 6):
            for letters in itertools.product("abc", repeat=many):
                if all(letters.count(kind) % 2 == 0 for kind in "abc"):
                    self.check("".join(letters))

    def test_any_beads(self):
        source = Random(30)
        for row in range(60):
            self.check(some_beads(source, source.randint(1, 12)))
            self.check(some_beads(source, 12, source.choice(("ab", "bc", "ac"))))

    def test_by_name_and_the_askers_own(self):
        told = fewest_cuts(beads="aabb")
        told.clear()
        self.assertEqual(len(fewest_cuts("aabb")), 2)
        self.assertTrue(is_even("aabb", fewest_cuts("aabb")))


class Refused(unittest.TestCase):
    def test_no_beads(self):
        for text, at in (
            ("d", 0), ("A", 0), (" ", 0), ("abcd", 3), ("aa ", 2), ("a|a", 1), ("xyz", 0), ("abab~", 4),
            ("a" * 25, 24), ("ab" * 13, 24), ("a" * 24 + "d", 24), ("a" * 23 + "d", 23), ("c" * 23 + "dddd", 23),
            ("b" * 30 + "d", 24), ("abcd" * 100, 3), ("a" * 400, 24), ("ab1c2", 2),
        ):
            with self.assertRaises(NoBeads, msg=text) as caught:
                fewest_cuts(text)
            self.assertEqual(caught.exception.at, at, text)

    def test_odd(self):
        for beads, kind in (
            ("a", "a"), ("b", "b"), ("c", "c"), ("aab", "b"), ("aac", "c"), ("cba", "a"), ("cb", "b"), ("ca", "a"),
            ("cbb", "c"), ("abb", "a"), ("c" * 23, "c"), ("abc" * 7, "a"), ("aabbc", "c"), ("ccccb", "b"),
        ):
            with self.assertRaises(Odd, msg=beads) as caught:
                fewest_cuts(beads)
            self.assertEqual(caught.exception.kind, kind)

    def test_no_beads_ahead_of_odd(self):
        for text, at in (("ad", 1), ("abc1", 3), ("a" * 25, 24), ("b" * 27, 24)):
            with self.assertRaises(NoBeads) as caught:
                fewest_cuts(text)
            self.assertEqual(caught.exception.at, at)


if __name__ == "__main__":
    unittest.main()
