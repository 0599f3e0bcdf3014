"""Point 33: the most even sharing."""

import itertools
import unittest
from fractions import Fraction
from random import Random

from halfcrumb.errors import NoHands, TooMany
from halfcrumb.evenness import most_even
from halfcrumb.lookers import is_most
from halfcrumb.shares import Share
from halfcrumb.tables import Table
from halfcrumb.tabletext import read_table
from tests.common import crumbs_once, some_table

EVEN = read_table("1:1")


def read_tables(*texts):
    """Tables that are told by their texts."""
    return [read_table(text) for text in texts]


def cells_of(tables):
    """The cells, reckoned by Fractions."""
    ends = set()
    for table in tables:
        widths = [width for width, worth in table.stretches()]
        ends.update(Fraction(sum(widths[:many]), sum(widths)) for many in range(len(widths) + 1))
    return list(itertools.pairwise(sorted(ends)))


def worth_by(table, here, there):
    """The worth from here to there, reckoned by Fractions."""
    wide, begin, worth = sum(width for width, worth in table.stretches()), Fraction(0), Fraction(0)
    for width, much in table.stretches():
        end = begin + Fraction(width, wide)
        worth += much * max(Fraction(0), min(end, there) - max(begin, here)) / (end - begin)
        begin = end
    return worth


class MostEven(unittest.TestCase):
    def check(self, tables, told_part=None):
        told = most_even(tables)
        self.assertIs(type(told), tuple)
        part, shares, weights = told
        self.assertTrue(type(shares) is list and type(weights) is list)
        self.assertEqual((len(shares), len(weights)), (len(tables), len(tables)))
        self.assertTrue(all(type(share) is Share for share in shares))
        for fraction in (part, *weights):
            self.assertIs(type(fraction), tuple)
            self.assertEqual((Fraction(*fraction).numerator, Fraction(*fraction).denominator), fraction)
        where = f"{[str(table) for table in tables]}: {part} {[str(share) for share in shares]} {weights}"
        self.assertTrue(crumbs_once(shares), where)
        for table, share in zip(tables, shares):
            worth = sum(worth_by(table, Fraction(*here), Fraction(*there)) for here, there in share.spans())
            self.assertGreaterEqual(worth, Fraction(*part) * table.total(), where)
        parts = [Fraction(*weight) for weight in weights]
        self.assertGreaterEqual(min(parts), 0, where)
        self.assertEqual(sum(parts), 1, where)
        most = sum(
            max(weight * worth_by(table, *cell) / table.total() for table, weight in zip(tables, parts))
            for cell in cells_of(tables)
        )
        self.assertEqual(most, Fraction(*part), where)
        self.assertGreaterEqual(most, Fraction(1, len(tables)), where)
        self.assertTrue(is_most(tables, part, shares, weights), where)
        if told_part is not None:
            self.assertEqual(part, told_part)

    def test_like_tables(self):
        for text in ("1:1", "1:1 1:3", "1:0 1:1 1:0", "2:1 1:0 1:5", "1:1 1:0 1:9 1:0 1:2 1:1"):
            for many in (2, 3, 4):
                self.check(read_tables(text) * many, (1, many))

    def test_each_wants_another_part(self):
        self.check(read_tables("1:1 1:0", "1:0 1:1"), (1, 1))
        self.check(read_tables("1:1 2:0", "1:0 1:1 1:0", "2:0 1:1"), (1, 1))
        self.check(read_tables("1:1 3:0", "1:0 1:1 2:0", "2:0 1:1 1:0", "3:0 1:1"), (1, 1))

    def test_one_wants_a_part_of_the_loaf_alone(self):
        self.check(read_tables("1:1 1:0", "1:1"), (2, 3))
        self.check(read_tables("1:1", "1:0 1:1"), (2, 3))
        self.check(read_tables("1:1", "1:1", "1:1 1:0"))
        self.check(read_tables("1:1", "3:0 1:1", "3:0 1:1", "1:1"))

    def test_several_want_the_same_part(self):
        self.check(read_tables("1:1 5:0", "1:1 5:0"), (1, 2))
        self.check(read_tables("1:1 5:0", "1:1 5:0", "1:1 5:0", "1:1"))
        self.check(read_tables("1:0 1:1 1:0", "1:0 1:2 1:0", "1:1 1:0 1:1"), (1, 2))

    def test_unlike_tables(self):
        self.check(read_tables("1:1 1:3", "1:3 1:1"), (3, 4))
        self.check(read_tables("1:1 1:2 1:3", "1:3 1:2 1:1"), (2, 3))
        self.check(read_tables("2:1 1:0 1:5", "1:1 1:3", "1:1"))
        self.check(read_tables("1:1 1:2", "1:2 1:1", "1:1 1:1", "1:5 1:1"))

    def test_all_tables_of_three_stretches_with_worths_of_few_kinds(self):
        tables = [
            Table([(1, worth) for worth in worths]) for worths in itertools.product((0, 1, 4), repeat=3) if any(worths)
        ]
        for pair in itertools.product(tables, repeat=2):
            self.check(list(pair))
        for three in itertools.product(tables[::4], tables[1::4], tables[2::4]):
            self.check(list(three))

    def test_any_tables(self):
        source = Random(33)
        done = 0
        while done < 150:
            many = source.randint(2, 4)
            tables = [some_table(source, {2: 6, 3: 4, 4: 3}[many]) for hand in range(many)]
            if len(cells_of(tables)) * many <= 24:
                self.check(tables)
                done += 1

    def test_great_numbers(self):
        self.check([
            Table([(999, 999999999), (998, 1), (1, 0), (997, 999999998), (1, 1), (2, 3), (991, 2)]),
            Table([(1, 999999937), (999, 3), (983, 5), (2, 7), (977, 999999893), (3, 1)]),
        ])
        self.check([
            Table([(999, 999999999), (998, 1), (1, 7)]), Table([(1, 999999937), (999, 3)]),
            Table([(983, 5), (2, 999999893)]), Table([(977, 1), (3, 999999929)]),
        ])

    def test_just_twenty_four(self):
        for many, cells in ((2, 12), (3, 8), (4, 6)):
            # The ends of these lie apart, but for the first and the last one.
            tables = [EVEN] * (many - 1)
            tables.append(Table([(1, 1 + at % 3) for at in range(min(cells, 8))]))
            if cells > 8:
                tables[0] = Table([(1, 1), (2, 0), (3, 4), (5, 1), (7, 2)])
            self.assertEqual(len(cells_of(tables)), cells)
            self.check(tables)

    def test_too_many(self):
        for many, cells in ((2, 13), (3, 9), (4, 7)):
            tables = [EVEN] * (many - 1)
            tables.append(Table([(1, 1)] * min(cells, 8)))
            if cells > 8:
                tables[0] = Table([(1 + at, 1) for at in range(cells - 7)])
            self.assertEqual(len(cells_of(tables)), cells)
            self.assertRaises(TooMany, most_even, tables)
        self.assertRaises(TooMany, most_even, [Table([(1, 1)] * 8), Table([(3, 1)] * 7)])
        self.assertRaises(TooMany, most_even, [Table([(1, 1)] * 7)] * 4)

    def test_no_hands(self):
        for many in (0, 1, 5, 6, 60):
            self.assertRaises(NoHands, most_even, [EVEN] * many)
            self.assertRaises(NoHands, most_even, [Table([(1, 1)] * 8)] * many)

    def test_by_name_and_unchanged(self):
        tables = read_tables("1:1 1:3", "1:1")
        handed = list(tables)
        part, shares, weights = most_even(tables=handed)
        self.assertEqual(handed, tables)
        shares.clear()
        weights.clear()
        self.check(handed)


if __name__ == "__main__":
    unittest.main()
