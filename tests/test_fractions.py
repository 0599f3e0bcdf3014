"""Points 5 and 6 and the interface's section halfcrumb/fractions.py."""

import unittest
from fractions import Fraction

from halfcrumb.errors import NoFraction, NoText
from halfcrumb.fractions import (
    fraction_of, fraction_text, is_less, minus, over, plus, read_fraction, times,
)

BIG = 10 ** 40 - 1
NEAR = 10 ** 40 - 3
TOPS = (0, 1, -1, 2, -3, 4, 6, -12, 35, 360, BIG, -NEAR)
BOTTOMS = (1, 2, -2, 3, 8, -9, 12, 360, BIG, -NEAR)
SOME = sorted({fraction_of(top, bottom) for top in TOPS for bottom in BOTTOMS})


def told(value):
    """A Python fraction as the program tells it."""
    return (value.numerator, value.denominator)


class Making(unittest.TestCase):
    def test_lowest_terms(self):
        for top in TOPS:
            for bottom in BOTTOMS:
                self.assertEqual(fraction_of(top, bottom), told(Fraction(top, bottom)))

    def test_plain_ones(self):
        self.assertEqual(fraction_of(6, 8), (3, 4))
        self.assertEqual(fraction_of(-6, 8), (-3, 4))
        self.assertEqual(fraction_of(6, -8), (-3, 4))
        self.assertEqual(fraction_of(-6, -8), (3, 4))
        self.assertEqual(fraction_of(8, 4), (2, 1))
        self.assertEqual(fraction_of(3, 8), (3, 8))

    def test_nought_is_told_in_one_way(self):
        for bottom in (1, -1, 5, -5, BIG):
            self.assertEqual(fraction_of(0, bottom), (0, 1))

    def test_bottom_left_out(self):
        for top in (0, 7, -7, BIG):
            self.assertEqual(fraction_of(top), (top, 1))

    def test_by_names(self):
        self.assertEqual(fraction_of(bottom=-4, top=2), (-1, 2))
        self.assertEqual(fraction_of(top=5), (5, 1))

    def test_kind(self):
        made = fraction_of(2, 4)
        self.assertIs(type(made), tuple)
        self.assertEqual([type(number) for number in made], [int, int])

    def test_bottom_nought(self):
        for top in (0, 1, -1, BIG):
            self.assertRaises(NoFraction, fraction_of, top, 0)

    def test_forty_figures(self):
        self.assertEqual(fraction_of(BIG, 3), (BIG // 3, 1))
        self.assertEqual(fraction_of(3, BIG), (1, BIG // 3))
        self.assertEqual(fraction_of(10 ** 39, -2 * 10 ** 39), (-1, 2))

    def test_four_thousand_figures(self):
        huge = 10 ** 3999
        self.assertEqual(fraction_of(huge + 1, 3 * (huge + 1)), (1, 3))


class Reckoning(unittest.TestCase):
    def test_against_python(self):
        for one in SOME:
            for other in SOME:
                first, second = Fraction(*one), Fraction(*other)
                self.assertEqual(plus(one, other), told(first + second))
                self.assertEqual(minus(one, other), told(first - second))
                self.assertEqual(times(one, other), told(first * second))
                self.assertIs(is_less(one, other), first < second)
                if other != (0, 1):
                    self.assertEqual(over(one, other), told(first / second))

    def test_plain_ones(self):
        self.assertEqual(plus((1, 2), (1, 3)), (5, 6))
        self.assertEqual(plus((1, 6), (1, 3)), (1, 2))
        self.assertEqual(minus((1, 2), (1, 3)), (1, 6))
        self.assertEqual(minus((1, 3), (1, 2)), (-1, 6))
        self.assertEqual(times((2, 3), (3, 4)), (1, 2))
        self.assertEqual(over((1, 2), (3, 4)), (2, 3))
        self.assertEqual(over((1, 2), (-3, 4)), (-2, 3))
        self.assertEqual(over((0, 1), (-3, 4)), (0, 1))

    def test_sums_to_nought(self):
        self.assertEqual(plus((-3, 7), (3, 7)), (0, 1))
        self.assertEqual(minus((3, 7), (3, 7)), (0, 1))
        self.assertEqual(times((3, 7), (0, 1)), (0, 1))

    def test_quotient_by_nought(self):
        for one in ((0, 1), (1, 2), (-BIG, NEAR)):
            self.assertRaises(NoFraction, over, one, (0, 1))

    def test_is_less(self):
        self.assertIs(is_less((1, 3), (1, 2)), True)
        self.assertIs(is_less((1, 2), (1, 3)), False)
        self.assertIs(is_less((1, 2), (1, 2)), False)
        self.assertIs(is_less((-1, 2), (-1, 3)), True)
        self.assertIs(is_less((-1, 3), (-1, 2)), False)
        self.assertIs(is_less((-1, 2), (0, 1)), True)
        self.assertIs(is_less((NEAR, BIG), (1, 1)), True)
        self.assertIs(is_less((BIG - 1, BIG), (BIG - 2, BIG - 1)), False)

    def test_by_names(self):
        self.assertEqual(plus(other=(1, 3), one=(1, 2)), (5, 6))
        self.assertEqual(minus(other=(1, 3), one=(1, 2)), (1, 6))
        self.assertEqual(times(other=(1, 3), one=(1, 2)), (1, 6))
        self.assertEqual(over(other=(1, 3), one=(1, 2)), (3, 2))
        self.assertIs(is_less(other=(1, 3), one=(1, 2)), False)


class Writing(unittest.TestCase):
    def test_as_the_document_writes(self):
        for fraction, text in (
            ((0, 1), "0"), ((-7, 1), "-7"), ((3, 8), "3/8"), ((-1, 2), "-1/2"), ((12, 1), "12"),
            ((BIG, NEAR), f"{BIG}/{NEAR}"), ((-10 ** 60, 1), "-1" + "0" * 60),
        ):
            self.assertEqual(fraction_text(fraction), text)

    def test_by_name(self):
        self.assertEqual(fraction_text(fraction=(3, 8)), "3/8")


class Reading(unittest.TestCase):
    def test_what_is_written_is_read(self):
        for fraction in SOME:
            if abs(fraction[0]) <= BIG and fraction[1] <= BIG:
                self.assertEqual(read_fraction(fraction_text(fraction)), fraction)

    def test_plain_ones(self):
        for text, fraction in (
            ("0", (0, 1)), ("-7", (-7, 1)), ("3/8", (3, 8)), ("-1/2", (-1, 2)), ("10", (10, 1)), ("7/10", (7, 10)),
        ):
            self.assertEqual(read_fraction(text), fraction)
        self.assertEqual(read_fraction(text="3/8"), (3, 8))

    def test_not_written_so(self):
        for text in (
            "", "-", "/", "-/", "+", "+1", "+1/2", "-0", "00", "01", "-01", "01/2", "1/02", "1/2/3", "1//2",
            "2/4", "0/2", "-0/2", "6/3", "3/1", "0/1", "-7/1", "1/0", "0/0", "/2", "1/", "-1/", "1/-2", "-1/-2",
            "--1", "1-", "- 1", " 1", "1 ", "1 /2", "1/ 2", " ", "1 2", "a", "1a", "a/2", "1/b", "1.5", "1,5", "0x1",
            "1_0", "1e3", "~", "none", "True",
        ):
            with self.assertRaises(NoText, msg=text):
                read_fraction(text)

    def test_forty_figures_and_forty_one(self):
        forty, more = "1" + "0" * 39, "1" + "0" * 40
        self.assertEqual(read_fraction(forty), (10 ** 39, 1))
        self.assertEqual(read_fraction("-" + forty), (-10 ** 39, 1))
        self.assertEqual(read_fraction(f"-{BIG}/{NEAR}"), (-BIG, NEAR))
        self.assertEqual(read_fraction(f"3/{forty}"), (3, 10 ** 39))
        for text in (more, "-" + more, f"{more}/3", f"-{more}/3", f"3/{more}", f"-3/{more}", "9" * 400):
            with self.assertRaises(NoText, msg=text):
                read_fraction(text)


if __name__ == "__main__":
    unittest.main()
