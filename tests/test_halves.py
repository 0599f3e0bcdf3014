"""Point 26: a span that is worth half by two tables."""

import itertools
import unittest
from fractions import Fraction
from random import Random

from halfcrumb.halves import half_span
from halfcrumb.tables import Table
from halfcrumb.tabletext import read_table
from tests.common import is_place, some_table


class HalfSpan(unittest.TestCase):
    def check(self, one, other):
        told = half_span(one, other)
        self.assertIs(type(told), tuple)
        here, there = told
        self.assertTrue(is_place(here) and is_place(there), told)
        self.assertLessEqual(Fraction(*here), Fraction(*there))
        for table in (one, other):
            self.assertEqual(2 * Fraction(*table.worth(here, there)), table.total(), f"{one} and {other}: {told}")

    def test_like_tables(self):
        for text in ("1:1", "1:5 2:0 3:7", "1:0 1:1", "1:1 1:0", "1:0 1:1 1:0", "1:1 1:0 1:1"):
            self.check(read_table(text), read_table(text))

    def test_one_stretch(self):
        for text in ("1:1", "7:3", "1:1 1:3", "1:0 1:1", "1:1 1:0", "1:2 1:1 1:0 1:9 1:9"):
            self.check(read_table("1:1"), read_table(text))
            self.check(read_table(text), read_table("5:2"))

    def test_all_tables_of_four_stretches_with_worths_of_few_kinds(self):
        tables = [
            Table([(1, worth) for worth in worths]) for worths in itertools.product((0, 1, 3), repeat=4) if any(worths)
        ]
        for one, other in itertools.product(tables, repeat=2):
            self.check(one, other)

    def test_ends_that_do_not_meet(self):
        tables = [
            Table(list(zip(widths, worths)))
            for widths in ((1, 1, 1), (2, 1, 4), (3, 5, 1)) for worths in itertools.product((0, 1, 2), repeat=3)
            if any(worths)
        ]
        for one, other in itertools.product(tables, repeat=2):
            self.check(one, other)

    def test_any_tables(self):
        source = Random(26)
        for row in range(300):
            self.check(some_table(source), some_table(source))

    def test_great_numbers(self):
        one = Table([(999, 999999999), (998, 1), (1, 0), (997, 999999998), (1, 1), (2, 3), (991, 2), (5, 999999937)])
        other = Table([(1, 999999999), (999, 0), (2, 7), (983, 999999929), (3, 0), (977, 1), (1, 5), (1, 999999893)])
        self.check(one, other)
        self.check(other, one)

    def test_by_names_and_unchanged(self):
        one, other = read_table("1:1 2:0 3:2"), read_table("1:0 1:1")
        self.assertEqual(half_span(one=one, other=other), half_span(one, other))
        self.assertEqual((str(one), str(other)), ("1:1 2:0 3:2", "1:0 1:1"))


if __name__ == "__main__":
    unittest.main()
