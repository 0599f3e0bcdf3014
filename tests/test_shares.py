"""Points 11 to 13, but for reading, and the interface's section halfcrumb/shares.py."""

import random
import unittest
from fractions import Fraction

from halfcrumb.errors import NoSpan
from halfcrumb.shares import Share
from halfcrumb.tables import Table

BIG = 10 ** 40 - 1
GRID = 12
LOAF = ((0, 1), (1, 1))


def told(value):
    """A Python fraction as the program tells it."""
    return (value.numerator, value.denominator)


def place(number):
    """The place of a number on the grid."""
    return told(Fraction(number, GRID))


def span(first, last):
    """The span between two numbers on the grid."""
    return (place(first), place(last))


def cells_of(numbers):
    """The cells of the grid that spans, told by numbers, hold."""
    return {cell for first, last in numbers for cell in range(first, last)}


def spans_of(cells):
    """The told spans of cells, reckoned another way: where a cell begins or ends a row."""
    begins = [cell for cell in range(GRID) if cell in cells and cell - 1 not in cells]
    ends = [cell + 1 for cell in range(GRID) if cell in cells and cell + 1 not in cells]
    return [span(first, last) for first, last in zip(begins, ends)]


def some_numbers(chance):
    """Some spans, told by numbers on the grid."""
    pairs = [sorted((chance.randint(0, GRID), chance.randint(0, GRID))) for count in range(chance.randint(0, 5))]
    return [tuple(pair) for pair in pairs]


def share_of(numbers):
    """The share of spans that are told by numbers on the grid."""
    return Share([span(first, last) for first, last in numbers])


class Making(unittest.TestCase):
    def test_against_cells(self):
        chance = random.Random(11)
        for count in range(400):
            numbers = some_numbers(chance)
            self.assertEqual(share_of(numbers).spans(), spans_of(cells_of(numbers)), numbers)

    def test_any_order(self):
        rising = [span(0, 1), span(3, 4), span(6, 12)]
        self.assertEqual(Share(rising).spans(), rising)
        self.assertEqual(Share(rising[::-1]).spans(), rising)
        self.assertEqual(Share([rising[1], rising[2], rising[0]]).spans(), rising)

    def test_spans_that_meet_cover_repeat_or_touch(self):
        self.assertEqual(share_of([(0, 6), (3, 9)]).spans(), [span(0, 9)])
        self.assertEqual(share_of([(3, 9), (0, 6)]).spans(), [span(0, 9)])
        self.assertEqual(share_of([(0, 12), (3, 6)]).spans(), [span(0, 12)])
        self.assertEqual(share_of([(3, 6), (0, 12)]).spans(), [span(0, 12)])
        self.assertEqual(share_of([(3, 6), (3, 6), (3, 6)]).spans(), [span(3, 6)])
        self.assertEqual(share_of([(0, 3), (3, 6)]).spans(), [span(0, 6)])
        self.assertEqual(share_of([(3, 6), (0, 3), (7, 9)]).spans(), [span(0, 6), span(7, 9)])
        self.assertEqual(share_of([(0, 3), (6, 9), (3, 6)]).spans(), [span(0, 9)])
        self.assertEqual(share_of([(1, 2), (3, 4), (5, 6), (0, 12)]).spans(), [span(0, 12)])

    def test_empty_spans(self):
        for number in (0, 5, 12):
            self.assertEqual(share_of([(number, number)]).spans(), [])
        self.assertEqual(share_of([(5, 5), (0, 3), (12, 12)]).spans(), [span(0, 3)])
        self.assertEqual(share_of([(0, 3), (3, 3), (2, 2), (4, 6), (4, 4)]).spans(), [span(0, 3), span(4, 6)])

    def test_no_span_at_all(self):
        self.assertEqual(Share([]).spans(), [])

    def test_by_name(self):
        self.assertEqual(Share(spans=[LOAF]).spans(), [LOAF])

    def test_no_span(self):
        good = [span(0, 3), span(6, 9)]
        for bad in (
            ((-1, 2), (1, 2)), ((-1, BIG), (1, 1)), ((0, 1), (3, 2)), ((0, 1), (BIG + 1, BIG)), ((1, 2), (1, 3)),
            ((1, 1), (0, 1)), ((-1, 1), (-1, 1)), ((2, 1), (2, 1)), ((-2, 1), (-1, 1)), ((2, 1), (3, 1)),
        ):
            for at in range(3):
                with self.assertRaises(NoSpan, msg=bad):
                    Share(good[:at] + [bad] + good[at:])
            self.assertRaises(NoSpan, Share, [LOAF, bad])

    def test_the_list_that_was_handed_in(self):
        handed = [span(6, 9), span(0, 3)]
        share = Share(handed)
        self.assertEqual(handed, [span(6, 9), span(0, 3)])
        handed.append(LOAF)
        handed[0] = span(4, 5)
        self.assertEqual(share.spans(), [span(0, 3), span(6, 9)])
        self.assertEqual((len(share), str(share)), (2, "0-1/4 1/2-3/4"))

    def test_told_lists_are_the_askers_own(self):
        share = share_of([(0, 3), (6, 9)])
        share.spans().append(LOAF)
        share.spans().clear()
        share.spans()[0] = LOAF
        self.assertEqual(share.spans(), [span(0, 3), span(6, 9)])
        self.assertEqual(share.length(), (1, 2))

    def test_kinds(self):
        spans = share_of([(0, 3), (6, 9)]).spans()
        self.assertIs(type(spans), list)
        self.assertTrue(all(type(one) is tuple for one in spans))

    def test_sixty_spans(self):
        ends = [told(Fraction(number, BIG - number)) for number in range(120)]
        spans = list(zip(ends[::2], ends[1::2]))
        self.assertEqual(Share(spans[::-1]).spans(), spans)
        self.assertEqual(Share(spans).plus(Share(list(zip(ends[1::2], ends[2::2])))).spans(), [(ends[0], ends[-1])])


class Reckoning(unittest.TestCase):
    def test_against_cells(self):
        chance = random.Random(12)
        for count in range(400):
            one, other = some_numbers(chance), some_numbers(chance)
            first, second = cells_of(one), cells_of(other)
            self.assertEqual(share_of(one).plus(share_of(other)).spans(), spans_of(first | second))
            self.assertEqual(share_of(one).less(share_of(other)).spans(), spans_of(first - second))
            self.assertEqual(share_of(other).less(share_of(one)).spans(), spans_of(second - first))
            self.assertEqual(share_of(one).both(share_of(other)).spans(), spans_of(first & second))

    def test_with_itself(self):
        share = share_of([(0, 3), (6, 9)])
        self.assertEqual(share.plus(share), share)
        self.assertEqual(share.both(share), share)
        self.assertEqual(share.less(share).spans(), [])

    def test_with_the_share_without_crumbs(self):
        share, none = share_of([(0, 3), (6, 9)]), Share([])
        for one in (share, Share([LOAF]), none):
            self.assertEqual(one.plus(none), one)
            self.assertEqual(none.plus(one), one)
            self.assertEqual(one.less(none), one)
            self.assertEqual(none.less(one), none)
            self.assertEqual(one.both(none), none)
            self.assertEqual(none.both(one), none)

    def test_with_the_loaf(self):
        share, loaf = share_of([(0, 3), (6, 9)]), Share([LOAF])
        self.assertEqual(loaf.less(share).spans(), [span(3, 6), span(9, 12)])
        self.assertEqual(loaf.less(share).plus(share), loaf)
        self.assertEqual(share.less(loaf).spans(), [])
        self.assertEqual(loaf.both(share), share)

    def test_what_only_touches_has_nothing_in_common(self):
        one, other = share_of([(0, 3), (6, 9)]), share_of([(3, 6), (9, 12)])
        self.assertEqual(one.both(other).spans(), [])
        self.assertEqual(one.less(other), one)
        self.assertEqual(one.plus(other).spans(), [LOAF])

    def test_by_names(self):
        one, other = share_of([(0, 6)]), share_of([(3, 9)])
        self.assertEqual(one.plus(other=other).spans(), [span(0, 9)])
        self.assertEqual(one.less(other=other).spans(), [span(0, 3)])
        self.assertEqual(one.both(other=other).spans(), [span(3, 6)])
        self.assertEqual(one.parted(place=(1, 4))[0].spans(), [span(0, 3)])
        self.assertEqual(one.worth(table=Table([(1, 2)])), (1, 1))

    def test_nothing_is_changed(self):
        one, other = share_of([(0, 6), (8, 9)]), share_of([(3, 9)])
        before = (str(one), str(other))
        made = [one.plus(other), one.less(other), one.both(other), *one.parted((1, 4)), one.plus(Share([]))]
        texts = [str(share) for share in made]
        for share in made:
            share.plus(Share([LOAF]))
            share.spans().clear()
        self.assertEqual((str(one), str(other)), before)
        self.assertEqual([str(share) for share in made], texts)
        self.assertTrue(all(type(share) is Share for share in made))


class Parted(unittest.TestCase):
    def test_against_cells(self):
        chance = random.Random(13)
        for count in range(60):
            numbers = some_numbers(chance)
            cells = cells_of(numbers)
            for at in range(GRID + 1):
                ahead, behind = share_of(numbers).parted(place(at))
                self.assertEqual(ahead.spans(), spans_of({cell for cell in cells if cell < at}))
                self.assertEqual(behind.spans(), spans_of({cell for cell in cells if cell >= at}))

    def test_kind(self):
        parted = share_of([(0, 3), (6, 9)]).parted((1, 2))
        self.assertIs(type(parted), tuple)
        self.assertEqual([type(share) for share in parted], [Share, Share])

    def test_at_the_ends_of_the_loaf(self):
        share, none = share_of([(0, 3), (9, 12)]), Share([])
        self.assertEqual(share.parted((0, 1)), (none, share))
        self.assertEqual(share.parted((1, 1)), (share, none))
        self.assertEqual(none.parted((1, 2)), (none, none))

    def test_at_an_end_and_within(self):
        share = share_of([(0, 3), (6, 9)])
        self.assertEqual(share.parted((1, 4)), (share_of([(0, 3)]), share_of([(6, 9)])))
        self.assertEqual(share.parted((1, 3)), (share_of([(0, 3)]), share_of([(6, 9)])))
        self.assertEqual(share.parted((1, 2)), (share_of([(0, 3)]), share_of([(6, 9)])))
        self.assertEqual(share.parted((2, 3)), (share_of([(0, 3), (6, 8)]), share_of([(8, 9)])))

    def test_a_place_outside(self):
        for share in (share_of([(0, 3), (6, 9)]), Share([]), Share([LOAF])):
            for outside in ((-1, 2), (-1, BIG), (3, 2), (BIG + 1, BIG), (-BIG, 1)):
                self.assertRaises(NoSpan, share.parted, outside)


class LengthAndWorth(unittest.TestCase):
    def test_length(self):
        self.assertEqual(Share([]).length(), (0, 1))
        self.assertEqual(Share([LOAF]).length(), (1, 1))
        self.assertEqual(share_of([(0, 3), (6, 9)]).length(), (1, 2))
        self.assertEqual(share_of([(0, 3), (0, 3), (2, 4), (5, 5)]).length(), (1, 3))
        self.assertEqual(Share([((1, BIG), (2, BIG))]).length(), (1, BIG))

    def test_worth(self):
        table = Table([(1, 6), (2, 0), (1, 4)])
        self.assertEqual(Share([]).worth(table), (0, 1))
        self.assertEqual(Share([LOAF]).worth(table), (10, 1))
        self.assertEqual(share_of([(0, 1), (2, 10)]).worth(table), (16, 3))
        self.assertEqual(share_of([(4, 8)]).worth(table), (0, 1))
        self.assertEqual(share_of([(0, 2), (1, 3), (9, 12)]).worth(table), (10, 1))

    def test_against_cells(self):
        chance = random.Random(14)
        worths = [3, 0, 5, 1, 0, 0, 7, 2, 2, 9, 0, 4]
        # Two tables of halves of the worths stand for one of twelve stretches, which no table has.
        left = Table([(1, worth) for worth in worths[:6]] + [(6, 0)])
        right = Table([(6, 0)] + [(1, worth) for worth in worths[6:]])
        for count in range(100):
            numbers = some_numbers(chance)
            cells = cells_of(numbers)
            share = share_of(numbers)
            self.assertEqual(share.length(), told(Fraction(len(cells), GRID)))
            self.assertEqual(share.worth(left), (sum(worths[cell] for cell in cells if cell < 6), 1))
            self.assertEqual(share.worth(right), (sum(worths[cell] for cell in cells if cell >= 6), 1))

    def test_kinds(self):
        for fraction in (share_of([(0, 1)]).length(), share_of([(0, 1)]).worth(Table([(1, 6)])), Share([]).length()):
            self.assertIs(type(fraction), tuple)


class CountTextAndEquality(unittest.TestCase):
    def test_len(self):
        self.assertEqual(len(Share([])), 0)
        self.assertEqual(len(share_of([(0, 3), (6, 9), (4, 4)])), 2)
        self.assertEqual(len(share_of([(0, 3), (3, 9), (2, 4)])), 1)

    def test_str(self):
        self.assertEqual(str(Share([])), "none")
        self.assertEqual(str(share_of([(5, 5)])), "none")
        self.assertEqual(str(Share([LOAF])), "0-1")
        self.assertEqual(str(share_of([(6, 9), (0, 3)])), "0-1/4 1/2-3/4")
        self.assertEqual(str(share_of([(11, 12)])), "11/12-1")

    def test_equal_shares(self):
        self.assertTrue(share_of([(0, 3), (3, 6)]) == share_of([(0, 6)]))
        self.assertTrue(share_of([(8, 9), (0, 6), (1, 1)]) == share_of([(0, 4), (8, 9), (2, 6)]))
        self.assertTrue(Share([]) == share_of([(5, 5)]))
        self.assertFalse(share_of([(0, 3), (3, 6)]) != share_of([(0, 6)]))

    def test_unlike_shares(self):
        shares = [
            Share([]), Share([LOAF]), share_of([(0, 6)]), share_of([(0, 5)]), share_of([(0, 3), (4, 6)]),
            share_of([(6, 12)]),
        ]
        for at, one in enumerate(shares):
            for number, other in enumerate(shares):
                self.assertIs(one == other, at == number)
                self.assertIs(one != other, at != number)

    def test_things_of_other_kinds(self):
        for share in (Share([]), share_of([(0, 6)])):
            told_of_it = (share.spans(), tuple(share.spans()), str(share), len(share))
            for thing in (*told_of_it, None, False, object(), Table([(1, 1)])):
                self.assertIs(share == thing, False)
                self.assertIs(share != thing, True)


if __name__ == "__main__":
    unittest.main()
