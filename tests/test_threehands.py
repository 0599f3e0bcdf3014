"""Point 25: three hands."""

import unittest
from random import Random

from halfcrumb.errors import NoHands
from halfcrumb.threehands import ThreeHands
from tests.common import BIG, NOUGHT, ONE, answered, follow, texts

PIECES = ((NOUGHT, (1, 4)), ((1, 4), (1, 2)), ((1, 2), ONE))


def cut(hand, here, there, part):
    """An ask for a cut of three hands."""
    return ("cut", hand, here, there, there, part)


def told_course(c):
    """What point 25 tells: yields its asks, is sent the replies, returns a list of spans for each hand."""
    t, h = (c + 1 if c < 2 else 0), (c + 2 if c < 1 else c - 1)
    has = {0: [], 1: [], 2: []}
    x = yield ("cut", c, NOUGHT, ONE, ONE, (1, 3))
    y = yield ("cut", c, x, ONE, ONE, (1, 2))
    pieces = [(NOUGHT, x), (x, y), (y, ONE)]
    i = yield ("trim", t, tuple(pieces))
    z = b = None
    if i != 3:
        a, b = pieces[i]
        z = yield ("even", t, a, b, tuple(piece for number, piece in enumerate(pieces) if number != i))
        if z == b:
            i = 3
        else:
            pieces[i] = (a, z)
    chosen = yield ("choose", h, tuple(pieces))
    has[h].append(pieces[chosen])
    left = [number for number in range(3) if number != chosen]
    if i in left:
        own = i
    else:
        own = left[(yield ("choose", t, (pieces[left[0]], pieces[left[1]])))]
    has[t].append(pieces[own])
    left.remove(own)
    has[c].append(pieces[left[0]])
    if i != 3:
        s, n = (h, t) if chosen == i else (t, h)
        u = yield ("cut", n, z, b, b, (1, 3))
        v = yield ("cut", n, u, b, b, (1, 2))
        rest = [(z, u), (u, v), (v, b)]
        has[s].append(rest.pop((yield ("choose", s, tuple(rest)))))
        has[c].append(rest.pop((yield ("choose", c, tuple(rest)))))
        has[n] += rest
    return [has[0], has[1], has[2]]


class Making(unittest.TestCase):
    def test_the_cutter(self):
        for way, cutter in (
            (ThreeHands(), 0), (ThreeHands(0), 0), (ThreeHands(1), 1), (ThreeHands(2), 2), (ThreeHands(cutter=2), 2),
        ):
            self.assertEqual(way.hands(), 3)
            self.assertEqual(way.due(), cut(cutter, NOUGHT, ONE, (1, 3)))
            self.assertEqual(str(way), f"threehands {cutter}:")

    def test_no_hands(self):
        for cutter in (-1, 3, 4, -3, 10 ** 40 - 1, -BIG, True, None):
            self.assertRaises(NoHands, ThreeHands, cutter)
        self.assertRaises(NoHands, ThreeHands, cutter=3)


class Course(unittest.TestCase):
    def check(self, cutter, steps, shares):
        """Each ask with its reply, and the shares at the end."""
        way = ThreeHands(cutter)
        for ask, reply in steps:
            self.assertEqual(way.due(), ask)
            way.answer(reply)
        self.assertIsNone(way.due())
        self.assertEqual(texts(way), shares)

    def begin(self, cutter, trimmer, number):
        """The first three asks, with replies that make PIECES."""
        return [
            (cut(cutter, NOUGHT, ONE, (1, 3)), (1, 4)), (cut(cutter, (1, 4), ONE, (1, 2)), (1, 2)),
            (("trim", trimmer, PIECES), number),
        ]

    def test_who_is_asked(self):
        for cutter, trimmer, chooser in ((0, 1, 2), (1, 2, 0), (2, 0, 1)):
            way = ThreeHands(cutter)
            hands = []
            for reply in ((1, 4), (1, 2), 3, 0, 0):
                hands.append(way.due()[1])
                way.answer(reply)
            self.assertEqual(hands, [cutter, cutter, trimmer, chooser, trimmer])
            self.assertTrue(way.ended())

    def test_none_is_trimmed(self):
        for chosen, taken, shares in (
            (0, 0, ["1/2-1", "1/4-1/2", "0-1/4"]), (0, 1, ["1/4-1/2", "1/2-1", "0-1/4"]),
            (1, 0, ["1/2-1", "0-1/4", "1/4-1/2"]), (1, 1, ["0-1/4", "1/2-1", "1/4-1/2"]),
            (2, 0, ["1/4-1/2", "0-1/4", "1/2-1"]), (2, 1, ["0-1/4", "1/4-1/2", "1/2-1"]),
        ):
            left = tuple(piece for number, piece in enumerate(PIECES) if number != chosen)
            steps = self.begin(0, 1, 3) + [(("choose", 2, PIECES), chosen), (("choose", 1, left), taken)]
            self.check(0, steps, shares)

    def test_even_at_the_end_of_the_piece_is_none(self):
        others = {0: (PIECES[1], PIECES[2]), 1: (PIECES[0], PIECES[2]), 2: (PIECES[0], PIECES[1])}
        for number, (here, there) in enumerate(PIECES):
            steps = self.begin(1, 2, number) + [
                (("even", 2, here, there, others[number]), there), (("choose", 0, PIECES), 1),
                (("choose", 2, (PIECES[0], PIECES[2])), 1),
            ]
            self.check(1, steps, ["1/4-1/2", "0-1/4", "1/2-1"])

    def test_the_trimmed_piece_is_left(self):
        now = (PIECES[0], PIECES[1], ((1, 2), (3, 4)))
        rest = (((3, 4), (4, 5)), ((4, 5), (9, 10)), ((9, 10), ONE))
        steps = self.begin(2, 0, 2) + [
            (("even", 0, (1, 2), ONE, (PIECES[0], PIECES[1])), (3, 4)), (("choose", 1, now), 0),
            (cut(1, (3, 4), ONE, (1, 3)), (4, 5)), (cut(1, (4, 5), ONE, (1, 2)), (9, 10)),
            (("choose", 0, rest), 1), (("choose", 2, (rest[0], rest[2])), 1),
        ]
        self.check(2, steps, ["1/2-3/4 4/5-9/10", "0-1/4 3/4-4/5", "1/4-1/2 9/10-1"])

    def test_the_trimmed_piece_is_chosen(self):
        now = ((NOUGHT, (1, 8)), PIECES[1], PIECES[2])
        rest = (((1, 8), (1, 6)), ((1, 6), (1, 5)), ((1, 5), (1, 4)))
        steps = self.begin(0, 1, 0) + [
            (("even", 1, NOUGHT, (1, 4), (PIECES[1], PIECES[2])), (1, 8)), (("choose", 2, now), 0),
            (("choose", 1, (PIECES[1], PIECES[2])), 1),
            (cut(1, (1, 8), (1, 4), (1, 3)), (1, 6)), (cut(1, (1, 6), (1, 4), (1, 2)), (1, 5)),
            (("choose", 2, rest), 2), (("choose", 0, (rest[0], rest[1])), 0),
        ]
        self.check(0, steps, ["1/8-1/6 1/4-1/2", "1/6-1/5 1/2-1", "0-1/8 1/5-1/4"])

    def test_the_middle_piece_is_trimmed_away(self):
        now = (PIECES[0], ((1, 4), (1, 4)), PIECES[2])
        rest = (((1, 4), (1, 4)), ((1, 4), (1, 2)), ((1, 2), (1, 2)))
        steps = self.begin(0, 1, 1) + [
            (("even", 1, (1, 4), (1, 2), (PIECES[0], PIECES[2])), (1, 4)), (("choose", 2, now), 2),
            (cut(2, (1, 4), (1, 2), (1, 3)), (1, 4)), (cut(2, (1, 4), (1, 2), (1, 2)), (1, 2)),
            (("choose", 1, rest), 0), (("choose", 0, (rest[1], rest[2])), 1),
        ]
        self.check(0, steps, ["0-1/4", "none", "1/4-1"])

    def test_an_empty_piece_cannot_be_trimmed(self):
        way = answered(ThreeHands(), [(1, 2), (1, 2), 1])
        self.assertEqual(way.due(), ("even", 1, (1, 2), (1, 2), ((NOUGHT, (1, 2)), ((1, 2), ONE))))
        answered(way, [(1, 2), 0, 0])
        self.assertEqual((texts(way), len(way)), (["1/2-1", "none", "0-1/2"], 6))


class Any(unittest.TestCase):
    def test_by_many_rows_of_replies(self):
        source = Random(25)
        for cutter in range(3):
            counts = [
                follow(self, source, ThreeHands(cutter), told_course(cutter)) for row in range(400)
            ]
            self.assertEqual(sorted(set(counts)), [5, 6, 9, 10])


if __name__ == "__main__":
    unittest.main()
