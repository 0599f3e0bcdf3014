"""Point 3 and the interface's section halfcrumb/errors.py."""

import unittest

from halfcrumb import errors
from halfcrumb.fractions import fraction_of, over, read_fraction
from halfcrumb.tables import Table
from halfcrumb.tabletext import read_table

TEXT_REFUSALS = (
    "NoFraction", "NoText", "NoTable", "NoSpan", "NoWorth", "NoHands", "Ended", "NothingSaid",
    "NoName", "TooMany", "NothingDone", "NoWay",
)
VALUE_REFUSALS = {
    "NoReply": "ask", "NotEnded": "many", "Taken": "name", "NoWord": "name", "NoBeads": "at",
    "Odd": "kind", "NoCut": "at", "NoHand": "name", "NoRun": "name", "Seated": "name", "NoLine": "line",
}
BIG = 10 ** 40 - 1


class Classes(unittest.TestCase):
    def test_crumb_error_is_beneath_value_error(self):
        self.assertEqual(errors.CrumbError.__bases__, (ValueError,))

    def test_each_is_straight_beneath_crumb_error(self):
        for name in (*TEXT_REFUSALS, *VALUE_REFUSALS):
            self.assertEqual(getattr(errors, name).__bases__, (errors.CrumbError,), name)

    def test_no_others_are_there(self):
        found = {name for name, thing in vars(errors).items() if isinstance(thing, type)}
        self.assertEqual(found, {"CrumbError", *TEXT_REFUSALS, *VALUE_REFUSALS})


class Making(unittest.TestCase):
    def test_of_one_text(self):
        for name in ("CrumbError", *TEXT_REFUSALS):
            for text in ("", "why not", "{} {0} ~"):
                with self.assertRaises(getattr(errors, name)) as caught:
                    raise getattr(errors, name)(text)
                self.assertEqual(str(caught.exception), text)

    def test_of_a_value_by_place(self):
        for name, attribute in VALUE_REFUSALS.items():
            for value in (0, -7, BIG, "", "hall", "a b ~{}"):
                refusal = getattr(errors, name)(value)
                self.assertEqual(getattr(refusal, attribute), value, name)
                self.assertIsInstance(getattr(refusal, attribute), type(value))

    def test_of_a_value_by_name(self):
        for name, attribute in VALUE_REFUSALS.items():
            refusal = getattr(errors, name)(**{attribute: "ben"})
            self.assertEqual(getattr(refusal, attribute), "ben", name)

    def test_values_of_other_kinds(self):
        ask = ("choose", 1, (((0, 1), (1, 2)), ((1, 2), (1, 1))))
        for tuple_told in (ask, (), (1,), ("x", (2, (3,)))):
            self.assertEqual(errors.NoReply(tuple_told).ask, tuple_told)
        self.assertIsNone(errors.NoCut(None).at)

    def test_each_has_its_own_value(self):
        one = errors.Taken("ann")
        other = errors.Taken("ben")
        self.assertEqual((one.name, other.name), ("ann", "ben"))

    def test_a_text_can_be_shown(self):
        for name in VALUE_REFUSALS:
            self.assertNotEqual(str(getattr(errors, name)("x")), "")
        self.assertNotEqual(str(errors.NoReply(("cut", (1, 2)))), "")


class Order(unittest.TestCase):
    """Where two refusals are due, the one that is named first comes."""

    def test_no_text_ahead_of_no_table(self):
        for text in ("0:1 x", "0:0 01:1", "1:0  1:0", "1000:1 "):
            self.assertRaises(errors.NoText, read_table, text)

    def test_no_span_ahead_of_no_worth(self):
        table = Table([(1, 1)])
        for here, last in (((-1, 2), None), ((0, 1), (3, 2)), ((1, 2), (1, 3))):
            self.assertRaises(errors.NoSpan, table.cut, here, (-1, 1), last)

    def test_each_is_a_crumb_error(self):
        calls = (
            (fraction_of, 1, 0), (over, (1, 2), (0, 1)), (read_fraction, "1/1"), (Table, []),
            (Table([(1, 1)]).worth, (-1, 1)), (Table([(1, 1)]).cut, (0, 1), (-1, 1)),
        )
        for call, *handed in calls:
            self.assertRaises(errors.CrumbError, call, *handed)
            self.assertRaises(ValueError, call, *handed)


if __name__ == "__main__":
    unittest.main()
