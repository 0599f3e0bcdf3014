"""Points 22, 23 and 24: honest hands; and what point 4 promises them."""

import unittest
from fractions import Fraction
from random import Random

from halfcrumb.errors import NoHands, NotEnded, NothingSaid
from halfcrumb.halving import Halving
from halfcrumb.honest import envied, first_false, honest, reply_by, run_by, sorry_table
from halfcrumb.onecuts import OneCuts
from halfcrumb.tabletext import read_table
from halfcrumb.threehands import ThreeHands
from halfcrumb.watching import Watcher
from tests.common import (
    BIG, MAKINGS, NOUGHT, ONE, answered, crumbs_once, legal_reply, place_of, run_at_random, some_table, stands, texts,
)

HALF = (1, 2)
EVEN = read_table("1:1")
# A half is at 2/3, a third at 5/9, two thirds at 7/9, a fourth at 1/2.
LATE = read_table("1:1 1:3")
EARLY = read_table("1:3 1:1")
# Nothing is worth anything but from 1/4 to 1/2 and from 3/4 to 1.
GAPS = read_table("1:0 1:2 1:0 1:2")
SPANS = ((NOUGHT, (1, 4)), ((1, 4), HALF), (HALF, ONE))


class ToCut(unittest.TestCase):
    def check(self, table, here, there, upto, part, reply):
        self.assertEqual(reply_by(table, ("cut", 0, here, there, upto, part)), reply)
        self.assertEqual(reply_by(table, ("cut", 3, here, there, upto, part)), reply)

    def test_within(self):
        self.check(EVEN, NOUGHT, ONE, ONE, HALF, HALF)
        self.check(LATE, NOUGHT, ONE, ONE, HALF, (2, 3))
        self.check(LATE, NOUGHT, ONE, ONE, (1, 3), (5, 9))
        self.check(LATE, HALF, ONE, ONE, (1, 3), (2, 3))
        self.check(EARLY, (1, 4), (3, 4), (3, 4), HALF, (5, 12))

    def test_by_names(self):
        self.assertEqual(reply_by(table=EVEN, ask=("cut", 0, NOUGHT, ONE, ONE, HALF)), HALF)

    def test_the_least_such_place(self):
        self.check(GAPS, NOUGHT, ONE, ONE, HALF, HALF)
        self.check(GAPS, HALF, ONE, ONE, HALF, (7, 8))

    def test_upto_behind_there(self):
        self.check(LATE, NOUGHT, (3, 4), ONE, HALF, (2, 3))
        self.check(LATE, NOUGHT, (2, 3), ONE, HALF, (2, 3))
        self.check(LATE, NOUGHT, HALF, ONE, HALF, HALF)
        self.check(LATE, NOUGHT, (1, 4), ONE, HALF, (1, 4))
        self.check(LATE, NOUGHT, NOUGHT, ONE, HALF, NOUGHT)
        self.check(EVEN, NOUGHT, HALF, (3, 4), HALF, (3, 8))

    def test_part_nought(self):
        for here in (NOUGHT, (1, 8), (1, 4), HALF, (5, 8), ONE):
            self.check(GAPS, here, ONE, ONE, NOUGHT, here)

    def test_part_one_and_more(self):
        self.check(GAPS, NOUGHT, (3, 4), (3, 4), ONE, HALF)
        self.check(GAPS, NOUGHT, (3, 4), (3, 4), (3, 2), (3, 4))

    def test_no_worth_is_there(self):
        self.check(GAPS, NOUGHT, (1, 4), (1, 4), HALF, NOUGHT)
        self.check(GAPS, HALF, (3, 4), (3, 4), HALF, HALF)
        self.check(EVEN, HALF, HALF, HALF, HALF, HALF)


class ToEven(unittest.TestCase):
    def check(self, table, here, there, others, reply):
        for two in (others, others[::-1]):
            self.assertEqual(reply_by(table, ("even", 1, here, there, two)), reply)

    def test_by_the_greater_of_the_others(self):
        self.check(EVEN, HALF, ONE, (SPANS[0], SPANS[1]), (3, 4))
        self.check(LATE, HALF, ONE, ((NOUGHT, (3, 8)), ((3, 8), HALF)), (5, 8))
        self.check(EVEN, (1, 4), ONE, ((NOUGHT, (1, 8)), ((1, 8), (1, 4))), (3, 8))

    def test_more_than_is_there(self):
        self.check(EVEN, NOUGHT, (1, 4), (SPANS[1], SPANS[2]), (1, 4))
        self.check(EARLY, HALF, ONE, (SPANS[0], SPANS[1]), ONE)

    def test_just_what_is_there(self):
        self.check(EVEN, (1, 4), HALF, (SPANS[0], (HALF, (5, 8))), HALF)

    def test_nought(self):
        self.check(GAPS, (1, 4), ONE, (SPANS[0], (HALF, (3, 4))), (1, 4))


class ToTrimAndChoose(unittest.TestCase):
    def thirds(self, *worths):
        """A table of three like stretches, and the three pieces that these are."""
        table = read_table(" ".join(f"1:{worth}" for worth in worths))
        return table, ((NOUGHT, (1, 3)), ((1, 3), (2, 3)), ((2, 3), ONE))

    def test_trim(self):
        for worths, reply in (
            ((3, 2, 1), 0), ((1, 3, 2), 1), ((1, 2, 3), 2), ((3, 0, 0), 0), ((0, 3, 0), 1), ((1, 1, 2), 2),
            ((3, 3, 1), 3), ((3, 1, 3), 3), ((1, 3, 3), 3), ((2, 2, 2), 3), ((2, 1, 1), 0),
        ):
            table, pieces = self.thirds(*worths)
            self.assertEqual(reply_by(table, ("trim", 2, pieces)), reply, worths)

    def test_trim_where_all_are_worth_nothing(self):
        pieces = (((0, 1), (1, 8)), ((1, 8), (1, 8)), (HALF, (3, 4)))
        self.assertEqual(reply_by(GAPS, ("trim", 0, pieces)), 3)

    def test_choose_of_three(self):
        for worths, reply in (
            ((3, 2, 1), 0), ((1, 3, 2), 1), ((1, 2, 3), 2), ((3, 3, 1), 0), ((3, 1, 3), 0), ((1, 3, 3), 1),
            ((2, 2, 2), 0), ((0, 0, 1), 2),
        ):
            table, pieces = self.thirds(*worths)
            self.assertEqual(reply_by(table, ("choose", 2, pieces)), reply, worths)

    def test_choose_of_two(self):
        for table, reply in ((EVEN, 0), (LATE, 1), (EARLY, 0), (GAPS, 0), (read_table("1:0 1:1"), 1)):
            self.assertEqual(reply_by(table, ("choose", 0, ((NOUGHT, HALF), (HALF, ONE)))), reply)
        self.assertEqual(reply_by(EVEN, ("choose", 0, ((HALF, HALF), (HALF, ONE)))), 1)
        self.assertEqual(reply_by(GAPS, ("choose", 0, ((NOUGHT, (1, 8)), ((1, 8), (1, 8))))), 0)


class ByRule(unittest.TestCase):
    """Replies to any asks, against what point 22 tells, found by way of the worth alone."""

    def place(self, table, here, there, much):
        if Fraction(*table.worth(here, there)) < much:
            return there
        low, high = Fraction(*here), Fraction(*there)
        ends = sorted({low, high} | {Fraction(*end) for end in table.ends() if low <= Fraction(*end) <= high})
        for end in ends:
            reached = Fraction(*table.worth(here, place_of(end)))
            if reached >= much:
                if reached == much and end == ends[0]:
                    return here
                before = ends[ends.index(end) - 1]
                so_far = Fraction(*table.worth(here, place_of(before)))
                return place_of(before + (end - before) * (much - so_far) / (reached - so_far))

    def test_any_asks(self):
        source = Random(22)
        for row in range(400):
            table = some_table(source)
            places = sorted(Fraction(source.randrange(49), 48) for place in range(3))
            here, there, upto = (place_of(place) for place in places)
            part = Fraction(source.randrange(5), source.choice((2, 3, 4)))
            much = part * Fraction(*table.worth(here, upto))
            reply = reply_by(table, ("cut", 0, here, there, upto, place_of(part)))
            self.assertEqual(reply, self.place(table, here, there, much))
            others = ((NOUGHT, here), (there, upto))
            much = max(Fraction(*table.worth(*other)) for other in others)
            reply = reply_by(table, ("even", 0, here, there, others))
            self.assertEqual(reply, self.place(table, here, there, much))


class RunBy(unittest.TestCase):
    def test_one_cuts(self):
        way = OneCuts()
        shares = run_by(way, [LATE, EVEN])
        self.assertEqual([str(share) for share in shares], ["2/3-1", "0-2/3"])
        self.assertEqual(str(way), "onecuts 0: 2/3 0")
        self.assertEqual([str(share) for share in run_by(way=OneCuts(1), tables=[LATE, EVEN])], ["1/2-1", "0-1/2"])

    def test_the_way_that_is_handed_in_goes_on(self):
        for kind, number in MAKINGS:
            source = Random(number)
            tables = [some_table(source) for hand in range(kind(number).hands())]
            way = kind(number)
            watcher = Watcher()
            watcher.watch(way, "way")
            shares = run_by(way, tables)
            self.assertTrue(way.ended())
            self.assertEqual(shares, way.shares())
            self.assertTrue(crumbs_once(shares))
            self.assertEqual(watcher.heard(), [("answer", "way", reply) for ask, reply in way.log()])
            for ask, reply in way.log():
                self.assertEqual(reply, reply_by(tables[ask[1]], ask))

    def test_from_each_step_on(self):
        for kind, number in MAKINGS:
            source = Random(number)
            tables = [some_table(source) for hand in range(kind(number).hands())]
            whole = [reply for ask, reply in run_at_random(source, kind(number)).log()]
            for count in range(len(whole) + 1):
                way = answered(kind(number), whole[:count])
                run_by(way, tables)
                log = way.log()
                self.assertEqual([reply for ask, reply in log[:count]], whole[:count])
                self.assertEqual([reply for ask, reply in log[count:]], [
                    reply_by(tables[ask[1]], ask) for ask, reply in log[count:]
                ])
                self.assertTrue(way.ended())

    def test_at_the_end_nothing_is_done(self):
        way = answered(OneCuts(), [(1, 8), 0])
        before = stands(way)
        self.assertEqual([str(share) for share in run_by(way, [LATE, EARLY])], ["1/8-1", "0-1/8"])
        self.assertEqual(stands(way), before)

    def test_answers_make_an_end_of_what_could_be_added(self):
        way = answered(OneCuts(), [HALF])
        way.back()
        run_by(way, [EVEN, EVEN])
        way.back()
        self.assertEqual(way.again(), 0)
        self.assertRaises(NothingSaid, way.again)

    def test_as_many_tables_as_hands(self):
        for kind, number in MAKINGS:
            hands = kind(number).hands()
            for many in range(7):
                if many != hands:
                    way = answered(kind(number), [HALF])
                    before = stands(way)
                    self.assertRaises(NoHands, run_by, way, [EVEN] * many)
                    self.assertEqual(stands(way), before)
            ended = run_by(kind(number), [EVEN] * hands)
            self.assertEqual(len(ended), hands)

    def test_no_hands_of_a_way_that_has_ended(self):
        self.assertRaises(NoHands, run_by, answered(OneCuts(), [HALF, 0]), [EVEN])

    def test_nothing_that_is_handed_in_is_changed(self):
        tables = [LATE, EVEN]
        told = run_by(OneCuts(), tables)
        self.assertEqual(tables, [LATE, EVEN])
        self.assertEqual(len(told), 2)
        way = answered(OneCuts(), [HALF, 0])
        run_by(way, tables).clear()
        self.assertEqual(texts(way), ["1/2-1", "0-1/2"])


class FirstFalse(unittest.TestCase):
    def test_the_number_in_the_log(self):
        way = answered(ThreeHands(), [(1, 3), (2, 3), 3, 0, 0])
        self.assertEqual([first_false(way, hand, EVEN) for hand in range(3)], [None, None, None])
        self.assertEqual([first_false(way, hand, LATE) for hand in range(3)], [0, 2, 3])
        way = answered(ThreeHands(), [(1, 3), (3, 4), 3, 0, 1])
        self.assertEqual([first_false(way, hand, EVEN) for hand in range(3)], [1, 2, 3])

    def test_the_first_of_several(self):
        way = answered(Halving(4), [HALF, (1, 8), HALF, HALF, (1, 4), (1, 8), (5, 8), (3, 4)])
        self.assertEqual([first_false(way, hand, EVEN) for hand in range(4)], [None, 1, 6, None])

    def test_only_a_later_reply_is_false(self):
        way = answered(Halving(3), [(1, 3), (1, 2), (1, 2), (2, 3), (3, 4)])
        self.assertEqual([first_false(way, hand, EVEN) for hand in range(3)], [None, 1, 2])
        way = answered(Halving(3), [(1, 4), (1, 3), (1, 3), (5, 8), (3, 4)])
        self.assertEqual([first_false(way, hand, EVEN) for hand in range(3)], [0, None, 4])

    def test_no_reply_yet(self):
        for kind, number in MAKINGS:
            way = kind(number)
            for hand in range(way.hands()):
                self.assertIsNone(first_false(way, hand, LATE))
                self.assertIs(honest(way, hand, LATE), True)
        way = answered(OneCuts(), [(1, 8)])
        self.assertEqual((first_false(way, 0, EVEN), first_false(way, 1, EVEN)), (0, None))

    def test_what_was_taken_back_does_not_count(self):
        way = answered(OneCuts(), [HALF, 1])
        self.assertEqual(first_false(way, 1, EVEN), 1)
        way.back()
        self.assertIsNone(first_false(way, 1, EVEN))

    def test_honest(self):
        way = answered(OneCuts(), [HALF, 1])
        self.assertIs(honest(way, 0, EVEN), True)
        self.assertIs(honest(way, 1, EVEN), False)
        self.assertIs(honest(way=way, hand=1, table=LATE), True)
        self.assertEqual(first_false(way=way, hand=0, table=LATE), 0)

    def test_against_each_reply(self):
        source = Random(23)
        for kind, number in MAKINGS:
            for row in range(15):
                tables = [some_table(source, 3) for hand in range(kind(number).hands())]
                way = kind(number)
                while way.due() is not None:
                    ask = way.due()
                    by_table = source.random() < 0.7
                    way.answer(reply_by(tables[ask[1]], ask) if by_table else legal_reply(source, ask))
                    for hand, table in enumerate(tables):
                        false = [
                            at for at, (ask, reply) in enumerate(way.log())
                            if ask[1] == hand and reply != reply_by(table, ask)
                        ]
                        self.assertEqual(first_false(way, hand, table), false[0] if false else None)
                        self.assertIs(honest(way, hand, table), not false)

    def test_no_hands(self):
        for kind, number in MAKINGS:
            for way in (kind(number), run_at_random(Random(1), kind(number))):
                for hand in (-1, way.hands(), way.hands() + 1, 9, -BIG, BIG, None, True):
                    self.assertRaises(NoHands, first_false, way, hand, EVEN)
                    self.assertRaises(NoHands, honest, way, hand, EVEN)


class SorryAndEnvied(unittest.TestCase):
    def way(self):
        """The hand 0 has from 1/2 to 1, the hand 1 from 0 to 1/2."""
        return answered(OneCuts(), [HALF, 0])

    def test_sorry_table(self):
        way = self.way()
        for hand, tables, number in (
            (0, [LATE], None), (1, [LATE], 0), (0, [EARLY], 0), (1, [EARLY], None), (0, [], None), (1, [], None),
            (1, [EVEN], None), (1, [EVEN, EARLY, LATE], 2), (1, [EVEN, LATE, LATE], 1), (0, [EARLY, LATE, EARLY], 0),
            (0, [LATE, EVEN, LATE], None),
        ):
            self.assertEqual(sorry_table(way, hand, tables), number)
        self.assertEqual(sorry_table(way=way, hand=1, tables=[LATE]), 0)

    def test_a_part_of_as_many_as_there_are_hands(self):
        way = answered(Halving(3), [(1, 3), HALF, HALF, (2, 3), (2, 3)])
        self.assertEqual(texts(way), ["0-1/3", "1/3-2/3", "2/3-1"])
        for hand in range(3):
            self.assertIsNone(sorry_table(way, hand, [EVEN]))
        self.assertEqual(sorry_table(way, 0, [EVEN, LATE]), 1)
        self.assertEqual(sorry_table(way, 2, [LATE, EARLY]), 1)
        way = answered(Halving(3), [(333, 1000), HALF, HALF, (2, 3), (2, 3)])
        self.assertEqual([sorry_table(way, hand, [EVEN]) for hand in range(3)], [0, None, None])

    def test_envied(self):
        way = self.way()
        for hand, table, others in ((0, EVEN, []), (1, EVEN, []), (0, LATE, []), (1, LATE, [0]), (0, EARLY, [1])):
            self.assertEqual(envied(way, hand, table), others)
        self.assertEqual(envied(way=way, hand=1, table=LATE), [0])

    def test_envied_rises(self):
        way = answered(Halving(4), [ONE] * 4 + [HALF, (1, 4), ONE, ONE])
        self.assertEqual(texts(way), ["1/4-1", "0-1/4", "none", "none"])
        self.assertEqual([envied(way, hand, EVEN) for hand in range(4)], [[], [0], [0, 1], [0, 1]])
        way = answered(Halving(4), [HALF] * 4 + [(1, 8), (1, 8), (3, 4), (3, 4)])
        self.assertEqual(texts(way), ["0-1/8", "1/8-1/2", "1/2-3/4", "3/4-1"])
        self.assertEqual([envied(way, hand, EVEN) for hand in range(4)], [[1, 2, 3], [], [1], [1]])

    def test_no_hands_then_not_ended(self):
        for kind, number in MAKINGS:
            ended = run_at_random(Random(2), kind(number))
            replies = [reply for ask, reply in ended.log()]
            for count in range(len(replies)):
                way = answered(kind(number), replies[:count])
                for hand in (-1, way.hands(), -BIG, BIG, None, True):
                    self.assertRaises(NoHands, sorry_table, way, hand, [EVEN])
                    self.assertRaises(NoHands, envied, way, hand, EVEN)
                for asking in (lambda: sorry_table(way, 0, []), lambda: envied(way, way.hands() - 1, EVEN)):
                    with self.assertRaises(NotEnded) as caught:
                        asking()
                    self.assertEqual(caught.exception.many, count)
            for hand in (-1, ended.hands(), BIG, None, True):
                self.assertRaises(NoHands, sorry_table, ended, hand, [EVEN])
                self.assertRaises(NoHands, envied, ended, hand, EVEN)

    def test_against_the_worths(self):
        source = Random(24)
        for kind, number in MAKINGS:
            for row in range(20):
                way = run_at_random(source, kind(number))
                tables = [some_table(source) for many in range(3)]
                for hand in range(way.hands()):
                    own = [Fraction(*way.shares()[hand].worth(table)) for table in tables]
                    sorry = [at for at in range(3) if own[at] < Fraction(tables[at].total(), way.hands())]
                    self.assertEqual(sorry_table(way, hand, tables), sorry[0] if sorry else None)
                    self.assertEqual(envied(way, hand, tables[0]), [
                        other for other in range(way.hands())
                        if Fraction(*way.shares()[other].worth(tables[0])) > own[0]
                    ])


class NothingIsDone(unittest.TestCase):
    def test_on_the_way(self):
        for kind, number in MAKINGS:
            way = run_at_random(Random(3), kind(number))
            watcher = Watcher()
            watcher.watch(way, "way")
            before, tables = stands(way), [LATE, EARLY]
            for hand in range(way.hands()):
                first_false(way, hand, LATE)
                honest(way, hand, LATE)
                sorry_table(way, hand, tables)
                envied(way, hand, LATE).append(None)
            self.assertEqual(stands(way), before)
            self.assertEqual(tables, [LATE, EARLY])
            taken = way.back()
            watcher.heard()
            first_false(way, 0, LATE)
            honest(way, 0, LATE)
            self.assertRaises(NotEnded, sorry_table, way, 0, tables)
            self.assertRaises(NotEnded, envied, way, 0, LATE)
            self.assertEqual(watcher.heard(), [])
            self.assertEqual(way.again(), taken)


class Promise(unittest.TestCase):
    def run_with(self, source, way, honest_hands):
        """Answer a way, these hands (a dict) by their tables, the others by any legal replies."""
        while way.due() is not None:
            ask = way.due()
            table = honest_hands.get(ask[1])
            way.answer(legal_reply(source, ask) if table is None else reply_by(table, ask))
        return way

    def check(self, way, hand, table):
        shares = way.shares()
        own = Fraction(*shares[hand].worth(table))
        self.assertTrue(honest(way, hand, table))
        self.assertGreaterEqual(own, Fraction(table.total(), way.hands()))
        self.assertIsNone(sorry_table(way, hand, [table]))
        if isinstance(way, ThreeHands):
            self.assertEqual(envied(way, hand, table), [])
            self.assertEqual(own, max(Fraction(*share.worth(table)) for share in shares))

    def test_one_honest_hand(self):
        source = Random(41)
        for kind, number in MAKINGS:
            for hand in range(kind(number).hands()):
                for row in range(25):
                    table = some_table(source, source.choice((1, 2, 8)))
                    self.check(self.run_with(source, kind(number), {hand: table}), hand, table)

    def test_all_hands_honest(self):
        source = Random(42)
        for kind, number in MAKINGS:
            for row in range(25):
                way = kind(number)
                tables = [some_table(source, source.choice((1, 2, 8))) for hand in range(way.hands())]
                run_by(way, tables)
                for hand, table in enumerate(tables):
                    self.check(way, hand, table)

    def test_who_is_sorry_was_false(self):
        source = Random(43)
        for kind, number in MAKINGS:
            for row in range(25):
                way, table = run_at_random(source, kind(number)), some_table(source, 2)
                for hand in range(way.hands()):
                    if sorry_table(way, hand, [table]) is not None:
                        self.assertIsNotNone(first_false(way, hand, table))


if __name__ == "__main__":
    unittest.main()
