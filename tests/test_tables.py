"""Points 7 to 10, but for reading, and the interface's section halfcrumb/tables.py."""

import itertools
import unittest
from fractions import Fraction

from halfcrumb.errors import NoSpan, NoTable, NoWorth
from halfcrumb.tables import Table

BIG = 10 ** 40 - 1
ROWS = (
    [(1, 1)],
    [(2, 3), (1, 0)],
    [(1, 0), (2, 5), (3, 0), (1, 4)],
    [(1, 0), (1, 0), (5, 7), (2, 0)],
    [(999, 999999999), (1, 1), (500, 0)],
    [(7, 4), (1, 9), (3, 0), (2, 2), (5, 1), (1, 0), (4, 6), (6, 3)],
)
PLACES = sorted({Fraction(top, bottom) for bottom in (1, 2, 3, 7, 8, 29) for top in range(bottom + 1)})


def told(value):
    """A Python fraction as the program tells it."""
    return (value.numerator, value.denominator)


def ends_of(rows):
    """The ends, reckoned another way: each from the widths ahead of it."""
    whole = sum(width for width, worth in rows)
    return [Fraction(sum(width for width, worth in rows[:count]), whole) for count in range(len(rows) + 1)]


def worth_of(rows, here, there):
    """The worth, reckoned another way: stretch by stretch, by what overlaps."""
    ends = ends_of(rows)
    parts = []
    for (width, worth), begin, end in zip(rows, ends, ends[1:]):
        overlap = max(min(end, there) - max(begin, here), Fraction(0))
        parts.append(worth * overlap / (end - begin))
    return sum(parts, Fraction(0))


class Making(unittest.TestCase):
    def test_one_and_eight_stretches(self):
        for rows in ([(1, 1)], [(3, 4)] * 8):
            self.assertEqual(Table(rows).stretches(), rows)

    def test_none_and_more_than_eight(self):
        for rows in ([], [(1, 1)] * 9, [(1, 1)] * 60):
            self.assertRaises(NoTable, Table, rows)

    def test_widths(self):
        for width in (1, 2, 998, 999):
            self.assertEqual(Table([(1, 1), (width, 1)]).stretches(), [(1, 1), (width, 1)])
        for width in (0, -1, 1000, BIG, -BIG):
            for rows in ([(width, 1)], [(1, 1), (width, 1)], [(width, 1), (1, 1)], [(1, 1), (width, 0), (2, 2)]):
                self.assertRaises(NoTable, Table, rows)

    def test_worths(self):
        for worth in (0, 1, 999999998, 999999999):
            self.assertEqual(Table([(1, 1), (1, worth)]).stretches(), [(1, 1), (1, worth)])
        for worth in (-1, 1000000000, BIG, -BIG):
            for rows in ([(1, worth)], [(1, 1), (1, worth)], [(1, worth), (1, 1)], [(1, 5), (2, worth), (2, 5)]):
                self.assertRaises(NoTable, Table, rows)

    def test_worths_that_are_all_nought(self):
        self.assertRaises(NoTable, Table, [(1, 0)])
        self.assertRaises(NoTable, Table, [(1, 0)] * 8)
        self.assertEqual(Table([(1, 0)] * 7 + [(1, 1)]).total(), 1)

    def test_worths_that_make_nought_together(self):
        self.assertRaises(NoTable, Table, [(1, 5), (1, -5)])
        self.assertRaises(NoTable, Table, [(1, 6), (1, -5)])

    def test_by_name(self):
        self.assertEqual(Table(stretches=[(2, 3)]).stretches(), [(2, 3)])

    def test_the_list_that_was_handed_in(self):
        rows = [(2, 3), (1, 0)]
        table = Table(rows)
        self.assertEqual(rows, [(2, 3), (1, 0)])
        rows[0] = (9, 9)
        rows.append((1, 1))
        self.assertEqual(table.stretches(), [(2, 3), (1, 0)])
        self.assertEqual((table.total(), len(table), str(table)), (3, 2, "2:3 1:0"))
        self.assertEqual(table.ends(), [(0, 1), (2, 3), (1, 1)])

    def test_told_lists_are_the_askers_own(self):
        table = Table([(2, 3), (1, 0)])
        table.stretches().append((1, 1))
        table.stretches().clear()
        table.ends()[0] = None
        table.ends().clear()
        self.assertEqual(table.stretches(), [(2, 3), (1, 0)])
        self.assertEqual(table.ends(), [(0, 1), (2, 3), (1, 1)])
        self.assertEqual(table.worth(), (3, 1))

    def test_kinds(self):
        table = Table([(2, 3), (1, 0)])
        self.assertIs(type(table.stretches()), list)
        self.assertTrue(all(type(row) is tuple for row in table.stretches()))
        self.assertIs(type(table.ends()), list)
        self.assertTrue(all(type(place) is tuple for place in table.ends()))
        self.assertIs(type(table.total()), int)


class EndsAndTotal(unittest.TestCase):
    def test_ends(self):
        self.assertEqual(Table([(5, 1)]).ends(), [(0, 1), (1, 1)])
        self.assertEqual(Table([(1, 1), (2, 0), (1, 9)]).ends(), [(0, 1), (1, 4), (3, 4), (1, 1)])
        for rows in ROWS:
            self.assertEqual(Table(rows).ends(), [told(end) for end in ends_of(rows)])

    def test_total(self):
        self.assertEqual(Table([(5, 1)]).total(), 1)
        self.assertEqual(Table([(999, 999999999)] * 8).total(), 7999999992)
        for rows in ROWS:
            self.assertEqual(Table(rows).total(), sum(worth for width, worth in rows))


class Worth(unittest.TestCase):
    def test_against_overlaps(self):
        for rows in ROWS:
            table = Table(rows)
            for here, there in itertools.combinations_with_replacement(PLACES, 2):
                self.assertEqual(table.worth(told(here), told(there)), told(worth_of(rows, here, there)))

    def test_plain_ones(self):
        table = Table([(2, 3), (1, 0), (1, 5)])
        self.assertEqual(table.worth((0, 1), (1, 4)), (3, 2))
        self.assertEqual(table.worth((1, 2), (3, 4)), (0, 1))
        self.assertEqual(table.worth((1, 3), (7, 8)), (7, 2))

    def test_left_out(self):
        table = Table([(2, 3), (1, 0), (1, 5)])
        self.assertEqual(table.worth(), (8, 1))
        self.assertEqual(table.worth(None, None), (8, 1))
        self.assertEqual(table.worth((1, 4)), (13, 2))
        self.assertEqual(table.worth((1, 4), None), (13, 2))
        self.assertEqual(table.worth(None, (1, 4)), (3, 2))

    def test_by_names(self):
        table = Table([(2, 3), (1, 0), (1, 5)])
        self.assertEqual(table.worth(here=(1, 4)), (13, 2))
        self.assertEqual(table.worth(there=(1, 4)), (3, 2))
        self.assertEqual(table.worth(there=(7, 8), here=(1, 3)), (7, 2))

    def test_here_alike_there(self):
        for rows in ROWS:
            for place in PLACES:
                self.assertEqual(Table(rows).worth(told(place), told(place)), (0, 1))

    def test_no_span(self):
        table = Table([(2, 3), (1, 0), (1, 5)])
        for here, there in (
            ((-1, 2), (1, 2)), ((-1, BIG), None), ((-2, 1), (-1, 1)), (None, (3, 2)), ((1, 2), (BIG + 1, BIG)),
            ((2, 1), (3, 1)), ((1, 2), (1, 3)), ((1, 1), (0, 1)), ((3, 2), None), (None, (-1, 2)), ((-1, 1), (2, 1)),
        ):
            with self.assertRaises(NoSpan, msg=(here, there)):
                table.worth(here, there)

    def test_forty_figures(self):
        table = Table([(1, 999999999)])
        self.assertEqual(table.worth((1, BIG), (2, BIG)), told(Fraction(999999999, BIG)))
        rows = ROWS[-1]
        self.assertEqual(
            Table(rows).worth((1, BIG), (BIG - 2, BIG - 1)),
            told(worth_of(rows, Fraction(1, BIG), Fraction(BIG - 2, BIG - 1))),
        )


class Cut(unittest.TestCase):
    def check_least(self, rows, here, much, last):
        """The cut is the least place: it has the worth, and between it and here no end has it, too."""
        told_place = Table(rows).cut(told(here), told(much), told(last))
        place = Fraction(*told_place)
        self.assertEqual(told_place, told(place))
        self.assertTrue(here <= place <= last)
        self.assertEqual(worth_of(rows, here, place), much)
        if place > here:
            begin = max([end for end in ends_of(rows) if end < place] + [here])
            self.assertLess(worth_of(rows, here, begin), much)
            self.assertLess(worth_of(rows, here, (begin + place) / 2), much)

    def test_against_worth(self):
        for rows in ROWS:
            for here, last in itertools.combinations_with_replacement(PLACES[::3] + [PLACES[-1]], 2):
                there_is = worth_of(rows, here, last)
                for part in (Fraction(0), Fraction(1, 3), Fraction(1, 2), Fraction(9, 10), Fraction(1)):
                    self.check_least(rows, here, there_is * part, last)

    def test_plain_ones(self):
        table = Table([(2, 3), (1, 0), (1, 5)])
        self.assertEqual(table.cut((0, 1), (1, 1)), (1, 6))
        self.assertEqual(table.cut((0, 1), (4, 1)), (4, 5))
        self.assertEqual(table.cut((1, 4), (13, 2)), (1, 1))

    def test_least_place_ahead_of_stretches_worth_nought(self):
        table = Table([(1, 0), (1, 2), (1, 0), (1, 0), (1, 4), (1, 0)])
        self.assertEqual(table.cut((0, 1), (2, 1)), (1, 3))
        self.assertEqual(table.cut((0, 1), (6, 1)), (5, 6))
        self.assertEqual(table.cut((5, 12), (4, 1)), (5, 6))
        self.assertEqual(table.cut((0, 1), (1, 1)), (1, 4))

    def test_much_nought_is_here(self):
        for rows in ROWS:
            for place in PLACES:
                self.assertEqual(Table(rows).cut(told(place), (0, 1)), told(place))
                self.assertEqual(Table(rows).cut(told(place), (0, 1), told(place)), told(place))

    def test_just_what_is_there_and_more(self):
        table = Table([(2, 3), (1, 0), (1, 5)])
        self.assertEqual(table.cut((0, 1), (8, 1)), (1, 1))
        self.assertIsNone(table.cut((0, 1), (8 * BIG + 1, BIG)))
        self.assertIsNone(table.cut((0, 1), (9, 1)))
        self.assertEqual(table.cut((0, 1), (3, 1), (3, 4)), (1, 2))
        self.assertEqual(table.cut((0, 1), (3, 1), (1, 2)), (1, 2))
        self.assertIsNone(table.cut((0, 1), (3, 1), (49, 100)))
        self.assertIsNone(table.cut((1, 2), (1, BIG), (3, 4)))
        self.assertIsNone(table.cut((1, 2), (1, BIG), (1, 2)))
        self.assertIsNone(table.cut((1, 1), (1, 2)))

    def test_last_left_out(self):
        table = Table([(2, 3), (1, 0), (1, 5)])
        self.assertEqual(table.cut((0, 1), (8, 1), None), (1, 1))
        self.assertEqual(table.cut(here=(0, 1), much=(8, 1)), (1, 1))
        self.assertEqual(table.cut(last=(1, 2), much=(1, 1), here=(0, 1)), (1, 6))
        self.assertIsNone(table.cut((0, 1), (3, 1), last=(1, 3)))

    def test_much_below_nought(self):
        table = Table([(2, 3), (1, 0), (1, 5)])
        for much in ((-1, 1), (-1, BIG), (-BIG, 1)):
            self.assertRaises(NoWorth, table.cut, (0, 1), much)
            self.assertRaises(NoWorth, table.cut, (1, 2), much, (1, 2))

    def test_no_span(self):
        table = Table([(2, 3), (1, 0), (1, 5)])
        for here, last in (
            ((-1, 2), None), ((-1, BIG), (1, 2)), ((0, 1), (3, 2)), ((0, 1), (BIG + 1, BIG)), ((1, 2), (1, 3)),
            ((3, 2), None), ((-2, 1), (-1, 1)), ((2, 1), (3, 1)),
        ):
            for much in ((0, 1), (1, 1), (-1, 1), (99, 1)):
                with self.assertRaises(NoSpan, msg=(here, much, last)):
                    table.cut(here, much, last)

    def test_forty_figures(self):
        rows = ROWS[-1]
        self.check_least(rows, Fraction(1, BIG), Fraction(BIG - 7, BIG), Fraction(BIG - 2, BIG - 1))


class LengthTextAndEquality(unittest.TestCase):
    def test_len(self):
        for rows in ROWS:
            self.assertEqual(len(Table(rows)), len(rows))

    def test_str(self):
        self.assertEqual(str(Table([(2, 3), (1, 0)])), "2:3 1:0")
        self.assertEqual(str(Table([(999, 999999999)])), "999:999999999")

    def test_equal_tables(self):
        for rows in ROWS:
            self.assertTrue(Table(rows) == Table(list(rows)))
            self.assertFalse(Table(rows) != Table(list(rows)))

    def test_unlike_tables(self):
        for one, other in itertools.permutations(ROWS, 2):
            self.assertFalse(Table(one) == Table(other))
            self.assertTrue(Table(one) != Table(other))
        self.assertFalse(Table([(1, 1)]) == Table([(2, 1)]))
        self.assertFalse(Table([(1, 1), (1, 1)]) == Table([(1, 2)]))
        self.assertFalse(Table([(1, 1), (2, 1)]) == Table([(2, 1), (1, 1)]))

    def test_things_of_other_kinds(self):
        table = Table([(2, 3), (1, 0)])
        for thing in ([(2, 3), (1, 0)], ((2, 3), (1, 0)), "2:3 1:0", 2, None, True, object(), {}):
            self.assertIs(table == thing, False)
            self.assertIs(table != thing, True)


if __name__ == "__main__":
    unittest.main()
