"""Point 28: whole pieces that nobody envies."""

import itertools
import unittest
from fractions import Fraction
from random import Random

from halfcrumb.errors import NoHands, TooMany
from halfcrumb.tables import Table
from halfcrumb.tabletext import read_table
from halfcrumb.whole import whole_pieces
from tests.common import NOUGHT, ONE, is_place, some_table

EVEN = read_table("1:1")
FIVE = read_table("1:1 1:2 1:1 1:2 1:1")


class WholePieces(unittest.TestCase):
    def check(self, tables):
        told = whole_pieces(tables)
        self.assertIs(type(told), tuple)
        cuts, order = told
        self.assertIs(type(cuts), list)
        self.assertIs(type(order), list)
        where = f"{[str(table) for table in tables]}: {told}"
        self.assertTrue(all(is_place(cut) for cut in cuts), where)
        self.assertEqual(sorted(order), list(range(len(tables))), where)
        self.assertEqual(len(cuts), len(tables) - 1, where)
        places = [NOUGHT, *cuts, ONE]
        spans = list(zip(places, places[1:]))
        for here, there in spans:
            self.assertLess(Fraction(*here), Fraction(*there), where)
        for at, hand in enumerate(order):
            worths = [Fraction(*tables[hand].worth(here, there)) for here, there in spans]
            self.assertEqual(worths[at], max(worths), where)
        return told

    def test_two_tables(self):
        texts = ("1:1", "1:1 1:3", "1:3 1:1", "1:0 1:1", "1:1 1:0", "1:0 1:1 1:0", "1:1 1:0 1:1", "1:1 2:5 3:0 1:9 1:2")
        for one, other in itertools.product(texts, repeat=2):
            self.check([read_table(one), read_table(other)])

    def test_two_tables_of_many_stretches(self):
        source = Random(282)
        for row in range(150):
            self.check([some_table(source), some_table(source)])

    def test_like_tables_make_like_worths(self):
        for text in ("1:1", "1:1 1:3", "1:0 1:1 1:0", "1:1 1:0 2:7 1:0"):
            table = read_table(text)
            for many in (2, 3):
                cuts, order = self.check([table] * many)
                places = [NOUGHT, *cuts, ONE]
                worths = {table.worth(here, there) for here, there in zip(places, places[1:])}
                self.assertEqual(len(worths), 1)

    def test_three_tables_of_few_worths(self):
        tables = [
            Table([(1, worth) for worth in worths]) for worths in itertools.product((0, 1, 5), repeat=3) if any(worths)
        ]
        for three in itertools.product(tables[::3], tables[1::3], tables[2::3]):
            self.check(list(three))
        for one, other in itertools.product(tables, repeat=2):
            self.check([one, other, other])

    def test_both_others_want_the_same_piece(self):
        for piece in range(3):
            rivals = [read_table(" ".join("1:9" if at == piece else "1:1" for at in range(3)))] * 2
            rivals.append(read_table(" ".join("1:9" if at == piece else f"1:{at}" for at in range(3))))
            for text in ("1:1", "1:1 1:0 1:1", "1:0 1:1 1:0", "2:1 1:0 1:0 2:1", "3:1 1:0 1:3 4:1", "1:2 1:1 1:2"):
                for pair in itertools.permutations(rivals, 2):
                    self.check([read_table(text), *pair])
                    self.check([pair[0], read_table(text), pair[1]])

    def test_three_tables_of_four_stretches(self):
        source = Random(283)
        for row in range(400):
            self.check([some_table(source, 4) for hand in range(3)])

    def test_great_numbers(self):
        self.check([
            Table([(999, 999999999), (998, 1), (1, 999999998), (997, 2)]),
            Table([(1, 999999937), (999, 3), (983, 5), (2, 7)]),
            Table([(1, 1), (1, 999999929), (977, 0), (3, 11)]),
        ])

    def test_no_hands(self):
        for many in (0, 1, 4, 5):
            self.assertRaises(NoHands, whole_pieces, [EVEN] * many)
            self.assertRaises(NoHands, whole_pieces, [FIVE] * many)

    def test_too_many(self):
        for at in range(3):
            tables = [EVEN, EVEN, EVEN]
            tables[at] = FIVE
            self.assertRaises(TooMany, whole_pieces, tables)
        self.assertRaises(TooMany, whole_pieces, [FIVE] * 3)
        self.assertRaises(TooMany, whole_pieces, [Table([(1, 1)] * 8), EVEN, EVEN])
        self.check([FIVE, Table([(1, 1)] * 8)])
        self.check([Table([(1, 1)] * 4)] * 3)

    def test_by_name_and_unchanged(self):
        tables = [read_table("1:1 1:3"), EVEN, read_table("1:0 1:1")]
        handed = list(tables)
        cuts, order = whole_pieces(tables=handed)
        self.assertEqual(handed, tables)
        cuts.clear()
        order.clear()
        self.check(handed)


if __name__ == "__main__":
    unittest.main()
