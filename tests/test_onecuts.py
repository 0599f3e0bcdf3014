"""Point 19: one cuts, the other one chooses."""

import unittest

from halfcrumb.errors import NoHands
from halfcrumb.onecuts import OneCuts
from tests.common import BIG, NOUGHT, ONE, answered, texts


class Making(unittest.TestCase):
    def test_the_cutter(self):
        for way, cutter in ((OneCuts(), 0), (OneCuts(0), 0), (OneCuts(1), 1), (OneCuts(cutter=1), 1)):
            self.assertEqual(way.hands(), 2)
            self.assertEqual(way.due(), ("cut", cutter, NOUGHT, ONE, ONE, (1, 2)))
            self.assertEqual(str(way), f"onecuts {cutter}:")

    def test_no_hands(self):
        for cutter in (-1, 2, 3, 4, -2, 10 ** 40 - 1, 1 - 10 ** 40, BIG, True, False, None):
            self.assertRaises(NoHands, OneCuts, cutter)
        self.assertRaises(NoHands, OneCuts, cutter=2)


class Course(unittest.TestCase):
    def test_the_other_hand_is_asked_to_choose(self):
        for cutter, other in ((0, 1), (1, 0)):
            for place in (NOUGHT, ONE, (1, 2), (3, 8), (BIG // 2, BIG)):
                way = answered(OneCuts(cutter), [place])
                self.assertEqual(way.due(), ("choose", other, ((NOUGHT, place), (place, ONE))))

    def test_who_gets_what(self):
        self.assertEqual(texts(answered(OneCuts(0), [(3, 8), 0])), ["3/8-1", "0-3/8"])
        self.assertEqual(texts(answered(OneCuts(0), [(3, 8), 1])), ["0-3/8", "3/8-1"])
        self.assertEqual(texts(answered(OneCuts(1), [(3, 8), 0])), ["0-3/8", "3/8-1"])
        self.assertEqual(texts(answered(OneCuts(1), [(3, 8), 1])), ["3/8-1", "0-3/8"])

    def test_empty_pieces_keep_their_number(self):
        self.assertEqual(texts(answered(OneCuts(), [NOUGHT, 0])), ["0-1", "none"])
        self.assertEqual(texts(answered(OneCuts(), [NOUGHT, 1])), ["none", "0-1"])
        self.assertEqual(texts(answered(OneCuts(), [ONE, 0])), ["none", "0-1"])
        self.assertEqual(texts(answered(OneCuts(), [ONE, 1])), ["0-1", "none"])
        self.assertEqual(texts(answered(OneCuts(1), [ONE, 1])), ["none", "0-1"])

    def test_two_asks(self):
        way = OneCuts()
        self.assertFalse(way.ended())
        way.answer((1, 2))
        self.assertFalse(way.ended())
        way.answer(0)
        self.assertTrue(way.ended())
        self.assertIsNone(way.due())


if __name__ == "__main__":
    unittest.main()
