"""Point 13, what is read as a share, and the interface's section halfcrumb/sharetext.py."""

import unittest

from halfcrumb.errors import NoText
from halfcrumb.shares import Share
from halfcrumb.sharetext import read_share

BIG = 10 ** 40 - 1
NEAR = 10 ** 40 - 3


class Reading(unittest.TestCase):
    def test_what_is_written_is_read(self):
        for spans in (
            [], [((0, 1), (1, 1))], [((0, 1), (1, 4)), ((1, 2), (3, 4))], [((1, BIG), (NEAR, BIG))],
            [((0, 1), (1, 9)), ((2, 9), (1, 3)), ((4, 9), (5, 9)), ((2, 3), (1, 1))],
        ):
            share = Share(spans)
            self.assertEqual(read_share(str(share)), share)
            self.assertEqual(read_share(str(share)).spans(), spans)

    def test_plain_ones(self):
        self.assertEqual(read_share("none"), Share([]))
        self.assertEqual(read_share("0-1").spans(), [((0, 1), (1, 1))])
        self.assertEqual(read_share(text="0-1/4 1/2-1").spans(), [((0, 1), (1, 4)), ((1, 2), (1, 1))])
        self.assertIs(type(read_share("none")), Share)
        self.assertIs(type(read_share("0-1")), Share)

    def check_no_text(self, texts):
        for text in texts:
            with self.assertRaises(NoText, msg=text):
                read_share(text)

    def test_spans_that_are_not_told_so(self):
        self.check_no_text((
            "1/2-1 0-1/4", "0-1/2 1/2-1", "0-1/2 1/4-1", "0-1/2 0-1/2", "0-0", "1/2-1/2", "1-1", "0-1/4 1/2-1/2",
            "1/2-1/4", "1-0", "0-1/4 1/3-1/3 1/2-1", "0-1 none", "none none", "none 0-1",
        ))

    def test_spans_beyond_the_loaf(self):
        self.check_no_text(("0-2", "0-3/2", "-1-1", "-1/2-1", "0--1", "-1--1", "2-3", "0-1/4 1/2-5/4", "-1/2-0"))

    def test_fractions_that_are_not_written_so(self):
        self.check_no_text((
            "0-2/4", "0-1/1", "0/1-1", "00-1", "0-01", "-0-1", "+0-1", "0-+1", "0-1/02", "0-1/0", "0.5-1", "0-a", "a-1",
            "0/2-1/2", "2/4-1",
        ))

    def test_other_forms(self):
        self.check_no_text((
            "", " ", "-", "0", "1", "1/2", "0-", "-1", "0-1/2-1", "0 - 1", "0 -1", "0- 1", " 0-1", "0-1 ",
            "0-1/4  1/2-1", "none ", " none", "None", "NONE", "0:1", "0-1/4,1/2-1", "~", "0-1/4 ", "0-1/4 x",
        ))

    def test_forty_figures_and_forty_one(self):
        forty, more = "1" + "0" * 39, "1" + "0" * 40
        self.assertEqual(read_share(f"1/{forty}-1").spans(), [((1, 10 ** 39), (1, 1))])
        self.assertEqual(read_share(f"0-{NEAR}/{BIG}").spans(), [((0, 1), (NEAR, BIG))])
        self.check_no_text((f"1/{more}-1", f"0-1/{more}", f"0-{BIG}/{more}", f"0-{more}/{more[:-1]}1"))


if __name__ == "__main__":
    unittest.main()
