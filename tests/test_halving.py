"""Point 20: halving."""

import unittest
from fractions import Fraction
from random import Random

from halfcrumb.errors import NoHands
from halfcrumb.halving import Halving
from tests.common import BIG, NOUGHT, ONE, answered, follow, texts


def cut(hand, here, there, part):
    """An ask of halving."""
    return ("cut", hand, here, there, there, part)


def told_course(group, here, there):
    """What point 20 tells of a group: yields its asks, is sent the replies, returns the span of each hand."""
    if len(group) == 1:
        return {group[0]: (here, there)}
    few = len(group) // 2
    part = Fraction(few, len(group))
    replies = []
    for hand in group:
        replies.append((yield cut(hand, here, there, (part.numerator, part.denominator))))
    order = sorted(range(len(group)), key=lambda at: Fraction(*replies[at]))
    middle = replies[order[few - 1]]
    ahead = yield from told_course([group[at] for at in sorted(order[:few])], here, middle)
    behind = yield from told_course([group[at] for at in sorted(order[few:])], middle, there)
    return {**ahead, **behind}


def by_hands(course):
    """The course, with the spans in the order of the hands."""
    dealt = yield from course
    return [[dealt[hand]] for hand in sorted(dealt)]


class Making(unittest.TestCase):
    def test_how_many_hands(self):
        for way, many, part in (
            (Halving(), 2, (1, 2)), (Halving(2), 2, (1, 2)), (Halving(3), 3, (1, 3)), (Halving(4), 4, (1, 2)),
            (Halving(hands=4), 4, (1, 2)),
        ):
            self.assertEqual(way.hands(), many)
            self.assertEqual(way.asked(), [0] * many)
            self.assertEqual(way.due(), cut(0, NOUGHT, ONE, part))
            self.assertEqual(str(way), f"halving {many}:")

    def test_no_hands(self):
        for many in (1, 0, -1, -2, 5, 6, 10 ** 40 - 1, -BIG, True, None):
            self.assertRaises(NoHands, Halving, many)
        self.assertRaises(NoHands, Halving, hands=5)


class Two(unittest.TestCase):
    def test_the_first_reply_is_where_it_is_cut(self):
        way = answered(Halving(), [(3, 4)])
        self.assertEqual(way.due(), cut(1, NOUGHT, ONE, (1, 2)))
        way.answer((1, 4))
        self.assertIsNone(way.due())
        self.assertEqual(texts(way), ["1/4-1", "0-1/4"])
        self.assertEqual(texts(answered(Halving(), [(1, 4), (3, 4)])), ["0-1/4", "1/4-1"])

    def test_alike_replies(self):
        self.assertEqual(texts(answered(Halving(), [(1, 4), (1, 4)])), ["0-1/4", "1/4-1"])
        self.assertEqual(texts(answered(Halving(), [NOUGHT, NOUGHT])), ["none", "0-1"])
        self.assertEqual(texts(answered(Halving(), [ONE, ONE])), ["0-1", "none"])


class Three(unittest.TestCase):
    def test_asks_and_shares(self):
        way = answered(Halving(3), [(1, 2)])
        self.assertEqual(way.due(), cut(1, NOUGHT, ONE, (1, 3)))
        way.answer((1, 4))
        self.assertEqual(way.due(), cut(2, NOUGHT, ONE, (1, 3)))
        way.answer((1, 3))
        self.assertEqual(way.due(), cut(0, (1, 4), ONE, (1, 2)))
        way.answer((3, 4))
        self.assertEqual(way.due(), cut(2, (1, 4), ONE, (1, 2)))
        way.answer((2, 3))
        self.assertTrue(way.ended())
        self.assertEqual(texts(way), ["2/3-1", "0-1/4", "1/4-2/3"])

    def test_alike_replies(self):
        way = answered(Halving(3), [(1, 2), (1, 3), (1, 3)])
        self.assertEqual(way.due(), cut(0, (1, 3), ONE, (1, 2)))
        self.assertEqual(texts(answered(way, [(1, 2), (1, 2)])), ["1/3-1/2", "0-1/3", "1/2-1"])
        self.assertEqual(texts(answered(Halving(3), [NOUGHT] * 5)), ["none", "none", "0-1"])
        self.assertEqual(texts(answered(Halving(3), [ONE] * 5)), ["0-1", "none", "none"])


class Four(unittest.TestCase):
    def test_asks_and_shares(self):
        way = Halving(4)
        for hand, reply in enumerate(((3, 4), (1, 2), (2, 3), (1, 4))):
            self.assertEqual(way.due(), cut(hand, NOUGHT, ONE, (1, 2)))
            way.answer(reply)
        # The second reply of the order, 1/2, is where it is cut: ahead of it 1 and 3, behind 0 and 2.
        for hand, reply in ((1, (1, 4)), (3, (1, 8))):
            self.assertEqual(way.due(), cut(hand, NOUGHT, (1, 2), (1, 2)))
            way.answer(reply)
        for hand, reply in ((0, (3, 4)), (2, (4, 5))):
            self.assertEqual(way.due(), cut(hand, (1, 2), ONE, (1, 2)))
            way.answer(reply)
        self.assertTrue(way.ended())
        self.assertEqual(texts(way), ["1/2-3/4", "1/8-1/2", "3/4-1", "0-1/8"])

    def test_alike_replies(self):
        way = answered(Halving(4), [(1, 2), (1, 3), (1, 2), (1, 2)])
        # 1/3 of the hand 1, then 1/2 of the hand 0; ahead in the list's order 0, 1.
        self.assertEqual(way.due(), cut(0, NOUGHT, (1, 2), (1, 2)))
        way = answered(way, [(1, 2), (1, 2)])
        self.assertEqual(way.due(), cut(2, (1, 2), ONE, (1, 2)))
        self.assertEqual(texts(answered(way, [(1, 2), ONE])), ["0-1/2", "none", "none", "1/2-1"])
        self.assertEqual(texts(answered(Halving(4), [ONE] * 8)), ["0-1", "none", "none", "none"])


class Any(unittest.TestCase):
    def test_by_many_rows_of_replies(self):
        source = Random(20)
        for many, asks in ((2, 2), (3, 5), (4, 8)):
            for row in range(150):
                course = told_course(list(range(many)), NOUGHT, ONE)
                self.assertEqual(follow(self, source, Halving(many), by_hands(course)), asks)


if __name__ == "__main__":
    unittest.main()
