"""Point 27: the ends of all of some tables."""

import unittest
from fractions import Fraction
from random import Random

from halfcrumb.cells import all_ends
from halfcrumb.tables import Table
from halfcrumb.tabletext import read_table
from tests.common import NOUGHT, ONE, is_place, some_table


def ends_of(*texts):
    """All ends of tables that are told by their texts."""
    return all_ends([read_table(text) for text in texts])


class AllEnds(unittest.TestCase):
    def test_one_table(self):
        self.assertEqual(ends_of("1:1"), [NOUGHT, ONE])
        self.assertEqual(ends_of("1:1 2:0 1:5"), [NOUGHT, (1, 4), (3, 4), ONE])

    def test_ends_that_meet(self):
        self.assertEqual(ends_of("1:1", "1:2"), [NOUGHT, ONE])
        self.assertEqual(ends_of("1:1 1:1", "2:5 2:6"), [NOUGHT, (1, 2), ONE])
        self.assertEqual(ends_of("1:1 1:1", "1:1 2:0 1:1", "1:1 1:1 2:1"), [NOUGHT, (1, 4), (1, 2), (3, 4), ONE])

    def test_rising(self):
        self.assertEqual(ends_of("1:1 1:1", "1:1 1:1 1:1"), [NOUGHT, (1, 3), (1, 2), (2, 3), ONE])
        self.assertEqual(ends_of("1:1 1:1 1:1", "1:1 1:1"), [NOUGHT, (1, 3), (1, 2), (2, 3), ONE])
        self.assertEqual(
            ends_of("9:1 1:1", "1:1 9:1", "1:1 1:1", "2:1 1:1"), [NOUGHT, (1, 10), (1, 2), (2, 3), (9, 10), ONE],
        )

    def test_by_name(self):
        self.assertEqual(all_ends(tables=[read_table("1:1 1:1")]), [NOUGHT, (1, 2), ONE])

    def test_near_places(self):
        self.assertEqual(ends_of("998:1 999:1", "997:1 998:1"), [NOUGHT, (997, 1995), (998, 1997), ONE])

    def test_any_tables(self):
        source = Random(27)
        for row in range(100):
            tables = [some_table(source) for table in range(source.randint(1, 4))]
            told = all_ends(tables)
            self.assertTrue(all(is_place(place) for place in told))
            rising = sorted({Fraction(*end) for table in tables for end in table.ends()})
            self.assertEqual([Fraction(*place) for place in told], rising)

    def test_told_lists_are_the_askers_own(self):
        table = Table([(1, 1), (1, 1)])
        tables = [table]
        told = all_ends(tables)
        self.assertIs(type(told), list)
        told.clear()
        self.assertEqual((tables, table.ends()), ([table], [NOUGHT, (1, 2), ONE]))
        self.assertEqual(all_ends(tables), [NOUGHT, (1, 2), ONE])


if __name__ == "__main__":
    unittest.main()
