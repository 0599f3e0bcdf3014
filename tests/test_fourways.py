"""Points 14 to 17 for each of the four ways, and what point 4 promises of each."""

import unittest
from fractions import Fraction
from random import Random

from halfcrumb.errors import Ended, NoReply, NotEnded, NothingSaid
from halfcrumb.halving import Halving
from halfcrumb.onecuts import OneCuts
from halfcrumb.shares import Share
from halfcrumb.threehands import ThreeHands
from halfcrumb.trimming import Trimming
from halfcrumb.ways import Way
from tests.common import (
    BIG, MAKINGS, NEVER, NOUGHT, ONE, answered, crumbs_once, is_place, place_of, run_at_random, stands,
)

HALF = (1, 2)
# Of each way: its class and number, its hands, its log at the end, the shares, its text.
SCRIPTS = (
    (OneCuts, 1, 2, [
        (("cut", 1, NOUGHT, ONE, ONE, HALF), (3, 8)),
        (("choose", 0, ((NOUGHT, (3, 8)), ((3, 8), ONE))), 1),
    ], ["3/8-1", "0-3/8"], "onecuts 1: 3/8 1"),
    (Halving, 3, 3, [
        (("cut", 0, NOUGHT, ONE, ONE, (1, 3)), HALF),
        (("cut", 1, NOUGHT, ONE, ONE, (1, 3)), (1, 4)),
        (("cut", 2, NOUGHT, ONE, ONE, (1, 3)), (1, 4)),
        (("cut", 0, (1, 4), ONE, ONE, HALF), ONE),
        (("cut", 2, (1, 4), ONE, ONE, HALF), (2, 3)),
    ], ["2/3-1", "0-1/4", "1/4-2/3"], "halving 3: 1/2 1/4 1/4 1 2/3"),
    (Trimming, 3, 3, [
        (("cut", 0, NOUGHT, ONE, ONE, (1, 3)), HALF),
        (("cut", 1, NOUGHT, HALF, ONE, (1, 3)), (1, 4)),
        (("cut", 2, NOUGHT, (1, 4), ONE, (1, 3)), (1, 4)),
        (("cut", 0, (1, 4), ONE, ONE, HALF), ONE),
        (("cut", 2, (1, 4), ONE, ONE, HALF), (2, 3)),
    ], ["2/3-1", "0-1/4", "1/4-2/3"], "trimming 3: 1/2 1/4 1/4 1 2/3"),
    (ThreeHands, 2, 3, [
        (("cut", 2, NOUGHT, ONE, ONE, (1, 3)), (1, 4)),
        (("cut", 2, (1, 4), ONE, ONE, HALF), HALF),
        (("trim", 0, ((NOUGHT, (1, 4)), ((1, 4), HALF), (HALF, ONE))), 2),
        (("even", 0, HALF, ONE, ((NOUGHT, (1, 4)), ((1, 4), HALF))), (3, 4)),
        (("choose", 1, ((NOUGHT, (1, 4)), ((1, 4), HALF), (HALF, (3, 4)))), 2),
        (("choose", 0, ((NOUGHT, (1, 4)), ((1, 4), HALF))), 0),
        (("cut", 0, (3, 4), ONE, ONE, (1, 3)), (3, 4)),
        (("cut", 0, (3, 4), ONE, ONE, HALF), (4, 5)),
        (("choose", 1, (((3, 4), (3, 4)), ((3, 4), (4, 5)), ((4, 5), ONE))), 0),
        (("choose", 2, (((3, 4), (4, 5)), ((4, 5), ONE))), 1),
    ], ["0-1/4 3/4-4/5", "1/2-3/4", "1/4-1/2 4/5-1"], "threehands 2: 1/4 1/2 2 3/4 2 0 3/4 4/5 0 1"),
)


def at_step(script, count):
    """A way of a script with so many of its replies."""
    kind, number, hands, log = script[:4]
    return answered(kind(number), [reply for ask, reply in log[:count]])


def moments():
    """Each script with each number of replies that it can have."""
    return [(script, count) for script in SCRIPTS for count in range(len(script[3]) + 1)]


class Told(unittest.TestCase):
    def test_at_each_moment(self):
        for script, count in moments():
            kind, number, hands, log, shares, text = script
            way = at_step(script, count)
            ended = count == len(log)
            self.assertIsInstance(way, Way)
            self.assertEqual(way.due(), None if ended else log[count][0])
            self.assertIs(way.ended(), ended)
            self.assertEqual(way.hands(), hands)
            self.assertEqual(way.log(), log[:count])
            replies_of = [[ask[1] for ask, reply in log[:count]].count(hand) for hand in range(hands)]
            self.assertEqual(way.asked(), replies_of)
            self.assertEqual(len(way), count)
            self.assertEqual(str(way), " ".join(text.split(" ")[:2 + count]))

    def test_shares(self):
        for script, count in moments():
            way = at_step(script, count)
            if count == len(script[3]):
                self.assertEqual([str(share) for share in way.shares()], script[4])
                self.assertTrue(all(type(share) is Share for share in way.shares()))
            else:
                with self.assertRaises(NotEnded) as caught:
                    way.shares()
                self.assertEqual(caught.exception.many, count)

    def test_told_lists_are_the_askers_own(self):
        for script, count in moments():
            way = at_step(script, count)
            before = stands(way)
            for told in [way.log(), way.asked()] + ([way.shares()] if way.ended() else []):
                self.assertIs(type(told), list)
                told.append(None)
                told[0] = 9
            self.assertEqual(stands(way), before)

    def test_asks_are_tuples_throughout(self):
        def tuples(thing):
            return type(thing) in (int, str) or type(thing) is tuple and all(tuples(part) for part in thing)
        for script, count in moments():
            way = at_step(script, count)
            self.assertTrue(way.due() is None or tuples(way.due()))
            for pair in way.log():
                self.assertTrue(tuples(pair))


class Replies(unittest.TestCase):
    def illegal(self, ask):
        """Replies that are just not legal to an ask."""
        if ask[0] in ("cut", "even"):
            here, there = Fraction(*ask[2]), Fraction(*ask[3])
            little = Fraction(1, BIG)
            outside = [place_of(here - little), place_of(there + little)]
            return [*outside, (ask[2][0] * 2, ask[2][1] * 2), list(ask[2]), list(ask[3]), 0, 1, 2, 3]
        many = len(ask[2]) + (ask[0] == "trim")
        return [many, many + 1, (0, 1), (1, 1), [0], "0", BIG, -BIG]

    def test_not_legal(self):
        for script, count in moments():
            if count == len(script[3]):
                continue
            way = at_step(script, count)
            before = stands(way)
            for reply in (*NEVER, *self.illegal(before[0])):
                with self.assertRaises(NoReply, msg=reply) as caught:
                    way.answer(reply)
                self.assertEqual(caught.exception.ask, before[0])
                self.assertEqual(stands(way), before)

    def test_legal(self):
        for script, count in moments():
            ask = at_step(script, count).due()
            if ask is None:
                continue
            if ask[0] in ("cut", "even"):
                legal = [ask[2], ask[3]]
            else:
                legal = range(len(ask[2]) + (ask[0] == "trim"))
            for reply in legal:
                way = at_step(script, count)
                self.assertIsNone(way.answer(reply))
                self.assertEqual(way.log()[-1], (ask, reply))

    def test_a_place_of_four_hundred_figures(self):
        for kind, number in MAKINGS:
            way = answered(kind(number), [(BIG // 3, BIG - 1)])
            self.assertEqual(way.log()[0][1], (BIG // 3, BIG - 1))

    def test_ended(self):
        for script in SCRIPTS:
            way = at_step(script, len(script[3]))
            before = stands(way)
            for reply in (0, HALF, ONE, *NEVER):
                self.assertRaises(Ended, way.answer, reply)
            self.assertEqual(stands(way), before)


class BackAndAgain(unittest.TestCase):
    def test_all_the_way(self):
        for script in SCRIPTS:
            log = script[3]
            way = at_step(script, len(log))
            for count in reversed(range(len(log))):
                self.assertEqual(way.back(), log[count][1])
                self.assertEqual(stands(way), stands(at_step(script, count)))
            self.assertRaises(NothingSaid, way.back)
            for count in range(len(log)):
                self.assertEqual(way.again(), log[count][1])
                self.assertEqual(stands(way), stands(at_step(script, count + 1)))
            self.assertRaises(NothingSaid, way.again)
            self.assertEqual(stands(way), stands(at_step(script, len(log))))

    def test_nothing_said(self):
        for kind, number in MAKINGS:
            way = kind(number)
            before = stands(way)
            self.assertRaises(NothingSaid, way.back)
            self.assertRaises(NothingSaid, way.again)
            self.assertEqual(stands(way), before)

    def test_an_answer_makes_an_end_of_what_could_be_added(self):
        for script, count in moments():
            if count < 2:
                continue
            way = at_step(script, count)
            way.back()
            taken = way.back()
            way.answer(taken)
            self.assertRaises(NothingSaid, way.again)
            self.assertEqual(stands(way), stands(at_step(script, count - 1)))

    def test_another_reply_leads_elsewhere(self):
        way = answered(ThreeHands(), [(1, 4), HALF, 3, 0])
        way.back()
        way.back()
        way.answer(0)
        self.assertEqual(way.due(), ("even", 1, NOUGHT, (1, 4), (((1, 4), HALF), (HALF, ONE))))


class TwinsAndEquality(unittest.TestCase):
    def test_a_twin_stands_just_so(self):
        for script, count in moments():
            for taken in range(count + 1):
                way = at_step(script, count)
                told = [way.back() for step in range(taken)]
                twin = way.twin()
                self.assertIs(type(twin), script[0])
                self.assertEqual(stands(twin), stands(way))
                self.assertEqual([twin.again() for step in range(taken)], told[::-1])
                self.assertRaises(NothingSaid, twin.again)
                self.assertEqual(stands(twin), stands(at_step(script, count)))
                self.assertEqual(stands(way), stands(at_step(script, count - taken)))

    def test_a_twin_goes_on_by_itself(self):
        for script in SCRIPTS:
            way = at_step(script, 1)
            twin = way.twin()
            way.back()
            self.assertEqual(stands(twin), stands(at_step(script, 1)))
            twin.back()
            twin.answer(NOUGHT)
            self.assertEqual(way.again(), script[3][0][1])
            self.assertEqual(len(twin), 1)

    def test_by_class_number_and_replies(self):
        ways = [kind(number) for kind, number in MAKINGS]
        ways += [answered(kind(number), [reply]) for kind, number in MAKINGS for reply in (HALF, ONE)]
        for at, one in enumerate(ways):
            for number, other in enumerate(ways):
                self.assertIs(one == other, at == number)
                self.assertIs(one != other, at != number)
                self.assertIs(one == other.twin(), at == number)

    def test_what_can_be_added_again_does_not_count(self):
        for script, count in moments():
            if count > 0:
                way = at_step(script, count)
                way.back()
                self.assertTrue(way == at_step(script, count - 1))
                self.assertFalse(way == at_step(script, count))

    def test_things_of_other_kinds(self):
        for kind, number in MAKINGS:
            way = kind(number)
            for thing in (None, True, number, str(way), [], way.log(), (), {}, object(), kind, Share([])):
                self.assertIs(way == thing, False)
                self.assertIs(way != thing, True)
                self.assertIs(thing == way, False)


class Promise(unittest.TestCase):
    def counts(self, kind, number):
        """The told numbers of asks."""
        if kind is ThreeHands:
            return (5, 6, 9, 10)
        return ({2: 2, 3: 5, 4: 8}[number],) if kind is Halving else ({0: 2, 1: 2, 2: 2, 3: 5, 4: 9}[number],)

    def test_each_way_ends_and_each_crumb_is_in_one_share(self):
        source = Random(4)
        for kind, number in MAKINGS:
            for row in range(120):
                way = run_at_random(source, kind(number))
                self.assertIn(len(way), self.counts(kind, number))
                self.assertEqual(sum(way.asked()), len(way))
                shares = way.shares()
                self.assertEqual(len(shares), way.hands())
                self.assertTrue(crumbs_once(shares), str(way))
                for share in shares:
                    for span in share.spans():
                        self.assertTrue(is_place(span[0]) and is_place(span[1]))

    def test_all_replies_at_an_end(self):
        for kind, number in MAKINGS:
            for at in (2, 3):
                way = kind(number)
                while not way.ended():
                    ask = way.due()
                    way.answer(ask[at] if ask[0] in ("cut", "even") else 0)
                self.assertIn(len(way), self.counts(kind, number))
                self.assertTrue(crumbs_once(way.shares()))


if __name__ == "__main__":
    unittest.main()
