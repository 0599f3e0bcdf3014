"""Point 10, what is read as a table, and the interface's section halfcrumb/tabletext.py."""

import unittest

from halfcrumb.errors import NoTable, NoText
from halfcrumb.tables import Table
from halfcrumb.tabletext import read_table


class Reading(unittest.TestCase):
    def test_what_is_written_is_read(self):
        for rows in ([(1, 1)], [(2, 3), (1, 0)], [(999, 999999999)] * 8, [(10, 0), (100, 20)]):
            self.assertEqual(read_table(str(Table(rows))).stretches(), rows)

    def test_plain_ones(self):
        self.assertEqual(read_table("2:3 1:0"), Table([(2, 3), (1, 0)]))
        self.assertEqual(read_table(text="7:8"), Table([(7, 8)]))
        self.assertIs(type(read_table("7:8")), Table)

    def test_no_text(self):
        for text in (
            "", " ", "2:3 ", " 2:3", "2:3  1:0", "2", "2:", ":3", ":", "2:3:4", "2::3", "2 :3", "2: 3", "2:3,1:0",
            "02:3", "2:03", "00:3", "2:00", "+2:3", "2:+3", "-2:3", "2:-3", "-0:1", "a:3", "2:b", "2.0:3", "2:3 x",
            "x 2:3", "2:3 1", "1_0:3", "2:3/1", "none", "~", "2;3", "2:3 1:0 ",
        ):
            with self.assertRaises(NoText, msg=text):
                read_table(text)

    def test_forty_figures_and_forty_one(self):
        forty, more = "9" * 40, "1" + "0" * 40
        for text in (f"{forty}:1", f"1:{forty}", f"1:1 {forty}:{forty}"):
            with self.assertRaises(NoTable, msg=text):
                read_table(text)
        for text in (f"{more}:1", f"1:{more}", f"1:1 1:{more}", f"{more}:{more}"):
            with self.assertRaises(NoText, msg=text):
                read_table(text)

    def test_no_table(self):
        for text in (
            "0:1", "1000:1", "1:1000000000", "1:0", "1:0 2:0", "1:1 0:1", "0:0", " ".join(["1:1"] * 9),
            " ".join(["1:1"] * 60),
        ):
            with self.assertRaises(NoTable, msg=text):
                read_table(text)

    def test_no_text_comes_ahead_of_no_table(self):
        for text in ("0:1 x:1", "x:1 0:1", "1:0 ", "1000:1 01:1", " ".join(["1:1"] * 9) + " "):
            with self.assertRaises(NoText, msg=text):
                read_table(text)


if __name__ == "__main__":
    unittest.main()
