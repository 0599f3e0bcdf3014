"""Point 21: trimming."""

import unittest
from fractions import Fraction
from random import Random

from halfcrumb.errors import NoHands
from halfcrumb.trimming import Trimming
from tests.common import BIG, NOUGHT, ONE, answered, follow, texts


def cut(hand, here, now, part):
    """An ask of trimming."""
    return ("cut", hand, here, now, ONE, part)


def told_course(many):
    """What point 21 tells: yields its asks, is sent the replies, returns a list of spans for each."""
    here, group, dealt = NOUGHT, list(range(many)), {}
    while len(group) > 1:
        part = (1, len(group))
        now = yield cut(group[0], here, ONE, part)
        maker = group[0]
        for hand in group[1:]:
            reply = yield cut(hand, here, now, part)
            if Fraction(*reply) < Fraction(*now):
                now, maker = reply, hand
        dealt[maker] = (here, now)
        group.remove(maker)
        here = now
    dealt[group[0]] = (here, ONE)
    return [[dealt[hand]] for hand in range(many)]


class Making(unittest.TestCase):
    def test_how_many_hands(self):
        for way, many in (
            (Trimming(), 2), (Trimming(2), 2), (Trimming(3), 3), (Trimming(4), 4), (Trimming(hands=3), 3),
        ):
            self.assertEqual(way.hands(), many)
            self.assertEqual(way.asked(), [0] * many)
            self.assertEqual(way.due(), cut(0, NOUGHT, ONE, (1, many)))
            self.assertEqual(str(way), f"trimming {many}:")

    def test_no_hands(self):
        for many in (1, 0, -1, -3, 5, 6, 10 ** 40 - 1, -BIG, True, None):
            self.assertRaises(NoHands, Trimming, many)
        self.assertRaises(NoHands, Trimming, hands=1)


class Two(unittest.TestCase):
    def test_the_last_trimmer_gets_it(self):
        way = answered(Trimming(), [(1, 2)])
        self.assertEqual(way.due(), cut(1, NOUGHT, (1, 2), (1, 2)))
        way.answer((1, 3))
        self.assertTrue(way.ended())
        self.assertEqual(texts(way), ["1/3-1", "0-1/3"])

    def test_a_reply_that_is_now_again_makes_nothing(self):
        self.assertEqual(texts(answered(Trimming(), [(1, 2), (1, 2)])), ["0-1/2", "1/2-1"])
        self.assertEqual(texts(answered(Trimming(), [ONE, ONE])), ["0-1", "none"])
        self.assertEqual(texts(answered(Trimming(), [NOUGHT, NOUGHT])), ["none", "0-1"])

    def test_the_first_tells_the_end(self):
        self.assertEqual(texts(answered(Trimming(), [ONE, (1, 2)])), ["1/2-1", "0-1/2"])


class Three(unittest.TestCase):
    def test_asks_and_shares(self):
        way = answered(Trimming(3), [(1, 2)])
        self.assertEqual(way.due(), cut(1, NOUGHT, (1, 2), (1, 3)))
        way.answer((1, 4))
        self.assertEqual(way.due(), cut(2, NOUGHT, (1, 4), (1, 3)))
        way.answer((1, 4))
        self.assertEqual(way.due(), cut(0, (1, 4), ONE, (1, 2)))
        way.answer((3, 4))
        self.assertEqual(way.due(), cut(2, (1, 4), (3, 4), (1, 2)))
        way.answer((1, 2))
        self.assertTrue(way.ended())
        self.assertEqual(texts(way), ["1/2-1", "0-1/4", "1/4-1/2"])

    def test_trimmed_twice(self):
        way = answered(Trimming(3), [(1, 2), (1, 4), (1, 8)])
        self.assertEqual(way.due(), cut(0, (1, 8), ONE, (1, 2)))
        self.assertEqual(texts(answered(way, [(1, 2), (1, 2)])), ["1/8-1/2", "1/2-1", "0-1/8"])

    def test_alike_replies(self):
        self.assertEqual(texts(answered(Trimming(3), [ONE] * 5)), ["0-1", "none", "none"])
        self.assertEqual(texts(answered(Trimming(3), [NOUGHT] * 5)), ["none", "none", "0-1"])


class Four(unittest.TestCase):
    def test_asks_and_shares(self):
        way = Trimming(4)
        for ask, reply in (
            (cut(0, NOUGHT, ONE, (1, 4)), (1, 2)), (cut(1, NOUGHT, (1, 2), (1, 4)), (1, 2)),
            (cut(2, NOUGHT, (1, 2), (1, 4)), (1, 4)), (cut(3, NOUGHT, (1, 4), (1, 4)), (1, 4)),
            (cut(0, (1, 4), ONE, (1, 3)), ONE), (cut(1, (1, 4), ONE, (1, 3)), ONE),
            (cut(3, (1, 4), ONE, (1, 3)), (3, 4)),
            (cut(0, (3, 4), ONE, (1, 2)), (4, 5)), (cut(1, (3, 4), (4, 5), (1, 2)), (3, 4)),
        ):
            self.assertEqual(way.due(), ask)
            way.answer(reply)
        self.assertTrue(way.ended())
        self.assertEqual(texts(way), ["3/4-1", "none", "0-1/4", "1/4-3/4"])


class Any(unittest.TestCase):
    def test_by_many_rows_of_replies(self):
        source = Random(21)
        for many, asks in ((2, 2), (3, 5), (4, 9)):
            for row in range(150):
                self.assertEqual(follow(self, source, Trimming(many), told_course(many)), asks)


if __name__ == "__main__":
    unittest.main()
