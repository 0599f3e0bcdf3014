"""Points 14 to 17 as far as they speak of every way, by small ways that stand beneath Way."""

import itertools
import unittest

from halfcrumb.errors import Ended, NoReply, NotEnded, NothingSaid
from halfcrumb.shares import Share
from halfcrumb.ways import Way
from tests.common import BIG, NEVER, NOUGHT, ONE, answered, stands


class Sample(Way):
    """A small way of two hands that asks each of the four asks; the number is the hand that is asked first."""

    def __init__(self, first=0):
        Way.__init__(self, "sample", first, 2)

    def fresh(self):
        return Sample(self.number)

    def course(self, replay):
        one, other = self.number, 1 - self.number
        x = replay.reply_to(("cut", one, (1, 4), (3, 4), ONE, (1, 2)))
        y = replay.reply_to(("even", other, NOUGHT, x, ((x, ONE), (x, x))))
        pieces = ((NOUGHT, y), (y, x), (x, ONE))
        trimmed = replay.reply_to(("trim", one, pieces))
        if trimmed == 3:
            return self.dealt(other, [pieces[2]], [pieces[0], pieces[1]])
        left = tuple(piece for number, piece in enumerate(pieces) if number != trimmed)
        chosen = replay.reply_to(("choose", other, left))
        return self.dealt(other, [left[chosen]], [pieces[trimmed], left[1 - chosen]])

    def dealt(self, other, to_other, to_one):
        return [to_other, to_one] if other == 0 else [to_one, to_other]


class Chooser(Way):
    """A small way of one ask, ("choose", 2, three pieces), among three hands."""

    def __init__(self, number=0):
        Way.__init__(self, "chooser", number, 3)

    def fresh(self):
        return Chooser(self.number)

    def course(self, replay):
        pieces = ((NOUGHT, (1, 2)), ((1, 2), (1, 2)), ((1, 2), ONE))
        chosen = replay.reply_to(("choose", 2, pieces))
        left = [piece for number, piece in enumerate(pieces) if number != chosen]
        return [[left[0]], [left[1]], [pieces[chosen]]]


class Same(Way):
    """Another class whose course is that of Chooser."""

    def __init__(self, number=0):
        Way.__init__(self, "same", number, 3)

    def fresh(self):
        return Same(self.number)

    def course(self, replay):
        return Chooser.course(self, replay)


CUT = ("cut", 0, (1, 4), (3, 4), ONE, (1, 2))
EVEN = ("even", 1, NOUGHT, (1, 2), (((1, 2), ONE), ((1, 2), (1, 2))))
TRIM = ("trim", 0, ((NOUGHT, (1, 3)), ((1, 3), (1, 2)), ((1, 2), ONE)))
CHOOSE = ("choose", 1, ((NOUGHT, (1, 3)), ((1, 2), ONE)))
REPLIES = [(1, 2), (1, 3), 1, 0]
ASKS = [CUT, EVEN, TRIM, CHOOSE]


def sample(replies):
    """A Sample with some replies."""
    return answered(Sample(), replies)


class Told(unittest.TestCase):
    def test_step_by_step(self):
        for count, asked in enumerate(([0, 0], [1, 0], [1, 1], [2, 1], [2, 2])):
            way = sample(REPLIES[:count])
            self.assertEqual(way.due(), (ASKS + [None])[count])
            self.assertIs(way.ended(), count == 4)
            self.assertEqual(way.hands(), 2)
            self.assertEqual(way.log(), list(zip(ASKS, REPLIES))[:count])
            self.assertEqual(way.asked(), asked)
            self.assertEqual(len(way), count)

    def test_hands_are_told_by_the_way(self):
        way = Chooser()
        self.assertEqual((way.hands(), way.asked()), (3, [0, 0, 0]))
        way.answer(0)
        self.assertEqual((way.hands(), way.asked()), (3, [0, 0, 1]))

    def test_what_is_asked_hangs_on_the_replies(self):
        way = sample([(3, 4), (3, 4)])
        self.assertEqual(way.due(), ("trim", 0, ((NOUGHT, (3, 4)), ((3, 4), (3, 4)), ((3, 4), ONE))))
        way.answer(3)
        self.assertIsNone(way.due())
        self.assertEqual((way.asked(), len(way)), ([2, 1], 3))

    def test_what_is_asked_hangs_on_the_making(self):
        self.assertEqual(Sample(1).due(), ("cut", 1, (1, 4), (3, 4), ONE, (1, 2)))
        way = Sample(first=1)
        for reply in REPLIES:
            way.answer(reply)
        self.assertEqual([str(share) for share in way.shares()], ["0-1/3", "1/3-1"])

    def test_shares(self):
        shares = sample(REPLIES).shares()
        self.assertEqual([str(share) for share in shares], ["1/3-1", "0-1/3"])
        self.assertTrue(all(type(share) is Share for share in shares))
        self.assertEqual([str(share) for share in sample([(1, 2), (1, 3), 3]).shares()], ["0-1/2", "1/2-1"])
        chooser = Chooser()
        chooser.answer(1)
        self.assertEqual([str(share) for share in chooser.shares()], ["0-1/2", "1/2-1", "none"])

    def test_not_ended(self):
        for count in range(4):
            with self.assertRaises(NotEnded) as caught:
                sample(REPLIES[:count]).shares()
            self.assertEqual(caught.exception.many, count)

    def test_told_lists_are_the_askers_own(self):
        way = sample(REPLIES)
        before = stands(way)
        for told in (way.log(), way.asked(), way.shares()):
            self.assertIs(type(told), list)
            told.clear()
        way.log().append(None)
        way.asked()[0] = 9
        self.assertEqual(stands(way), before)

    def test_asking_changes_nothing(self):
        way = sample(REPLIES[:2])
        way.back()
        self.assertEqual(stands(way), stands(way))
        self.assertEqual(way.again(), REPLIES[1])


class Answers(unittest.TestCase):
    def test_tells_none(self):
        self.assertIsNone(Sample().answer((1, 2)))

    def test_by_name(self):
        way = Sample()
        way.answer(reply=(1, 2))
        self.assertEqual(len(way), 1)

    def check_replies(self, replies, legal, illegal):
        for reply in legal:
            way = sample(replies)
            way.answer(reply)
            self.assertEqual(way.log()[-1], (ASKS[len(replies)], reply))
            self.assertEqual(len(way), len(replies) + 1)
        for reply in (*illegal, *NEVER):
            way = sample(replies)
            before = stands(way)
            with self.assertRaises(NoReply, msg=reply) as caught:
                way.answer(reply)
            self.assertEqual(caught.exception.ask, ASKS[len(replies)])
            self.assertEqual(stands(way), before)

    def test_cut(self):
        self.check_replies(
            [], ((1, 4), (3, 4), (1, 2), (BIG // 2, BIG), (BIG // 3, BIG - 1)),
            (NOUGHT, ONE, (1, 5), (4, 5), (BIG // 4, BIG), (BIG, BIG + 1), 0, 1, 2, 3, [1, 2], [1, 4]),
        )

    def test_even(self):
        self.check_replies(
            REPLIES[:1], (NOUGHT, (1, 2), (1, 3), (1, BIG)),
            (ONE, (2, 3), (-1, BIG), ((BIG + 1) // 2, BIG), 0, 1, [0, 1]),
        )

    def test_trim(self):
        self.check_replies(REPLIES[:2], (0, 1, 2, 3), ((0, 1), (1, 1), (2, 1), (1, 3), [0], "3"))

    def test_choose_of_two(self):
        self.check_replies(REPLIES[:3], (0, 1), (2, 3, (0, 1), (1, 1), (1, 3), [1]))

    def test_choose_of_three(self):
        for reply in (0, 1, 2):
            Chooser().answer(reply)
        for reply in (3, *NEVER):
            self.assertRaises(NoReply, Chooser().answer, reply)

    def test_a_span_of_one_place(self):
        way = sample([(1, 4)])
        way.answer((1, 4))
        self.assertEqual(way.log()[-1], (("even", 1, NOUGHT, (1, 4), (((1, 4), ONE), ((1, 4), (1, 4)))), (1, 4)))

    def test_ended(self):
        for reply in (0, (1, 2), *NEVER):
            way = sample(REPLIES)
            before = stands(way)
            self.assertRaises(Ended, way.answer, reply)
            self.assertEqual(stands(way), before)

    def test_a_list_that_was_refused_and_changed(self):
        way = Sample()
        handed = [1, 2]
        self.assertRaises(NoReply, way.answer, handed)
        self.assertEqual(handed, [1, 2])
        self.assertEqual(len(way), 0)


class BackAndAgain(unittest.TestCase):
    def test_back_to_the_begin_and_again_to_the_end(self):
        way = sample(REPLIES)
        for count in (3, 2, 1, 0):
            self.assertEqual(way.back(), REPLIES[count])
            self.assertEqual(stands(way), stands(sample(REPLIES[:count])))
        for count in (0, 1, 2, 3):
            self.assertEqual(way.again(), REPLIES[count])
            self.assertEqual(stands(way), stands(sample(REPLIES[:count + 1])))

    def test_what_else_could_be_added_stays_so(self):
        way = sample(REPLIES)
        told = [way.back(), way.back(), way.again(), way.back(), way.back(), way.again(), way.again(), way.again()]
        self.assertEqual(told, [0, 1, 1, 1, (1, 3), (1, 3), 1, 0])
        self.assertEqual(way, sample(REPLIES))

    def test_nothing_said(self):
        way = Sample()
        self.assertRaises(NothingSaid, way.back)
        self.assertRaises(NothingSaid, way.again)
        way.answer((1, 2))
        self.assertRaises(NothingSaid, way.again)
        way.back()
        self.assertRaises(NothingSaid, way.back)
        self.assertEqual(way.again(), (1, 2))
        self.assertRaises(NothingSaid, way.again)
        self.assertEqual(stands(way), stands(sample(REPLIES[:1])))

    def test_an_answer_makes_an_end_of_it(self):
        way = sample(REPLIES)
        way.back()
        way.back()
        way.answer(2)
        self.assertRaises(NothingSaid, way.again)
        self.assertEqual(way.back(), 2)
        self.assertEqual(way.again(), 2)
        self.assertRaises(NothingSaid, way.again)

    def test_the_same_answer_makes_an_end_of_it_too(self):
        way = sample(REPLIES)
        way.back()
        way.back()
        way.answer(REPLIES[2])
        self.assertRaises(NothingSaid, way.again)

    def test_what_was_refused_makes_no_end_of_it(self):
        way = sample(REPLIES)
        way.back()
        self.assertRaises(NoReply, way.answer, 9)
        self.assertEqual(way.again(), 0)
        self.assertRaises(Ended, way.answer, 0)
        way.back()
        self.assertRaises(NotEnded, way.shares)
        self.assertEqual(way.again(), 0)


class Twins(unittest.TestCase):
    def test_stands_just_so(self):
        for count in range(5):
            for taken in range(count + 1):
                way = sample(REPLIES[:count])
                for step in range(taken):
                    way.back()
                twin = way.twin()
                self.assertIs(type(twin), Sample)
                self.assertEqual(stands(twin), stands(way))
                self.assertEqual([twin.again() for step in range(taken)], REPLIES[count - taken:count])
                self.assertRaises(NothingSaid, twin.again)

    def test_has_the_same_number(self):
        twin = Sample(1).twin()
        self.assertEqual(twin.due()[1], 1)

    def test_goes_on_by_itself(self):
        way = sample(REPLIES[:3])
        way.back()
        before, twin = stands(way), way.twin()
        twin.answer(3)
        self.assertEqual(stands(way), before)
        self.assertEqual(way.again(), 1)
        after, other = stands(way), way.twin()
        way.back()
        way.back()
        way.answer((1, 4))
        self.assertEqual(stands(other), after)
        self.assertEqual(len(twin), 3)
        self.assertRaises(NothingSaid, other.again)


class EqualityAndText(unittest.TestCase):
    def test_equal_where_the_same_replies_stand(self):
        ways = [sample(REPLIES[:count]) for count in range(5)]
        ways += [sample([(1, 4)]), sample([(1, 2), (1, 4)]), sample([(1, 2), (1, 3), 3])]
        for (at, one), (number, other) in itertools.product(enumerate(ways), repeat=2):
            self.assertIs(one == other, at == number)
            self.assertIs(one != other, at != number)
            self.assertIs(one == other.twin(), at == number)

    def test_what_can_be_added_again_does_not_count(self):
        way = sample(REPLIES)
        way.back()
        self.assertTrue(way == sample(REPLIES[:3]))

    def test_another_number(self):
        self.assertFalse(Sample(0) == Sample(1))
        self.assertFalse(Sample(1) == Sample(0))
        self.assertTrue(Sample(1) == Sample(1))

    def test_another_class(self):
        one, other = Chooser(), Same()
        for count in range(2):
            self.assertFalse(one == other)
            self.assertFalse(other == one)
            self.assertTrue(one != other)
            if count == 0:
                one.answer(0)
                other.answer(0)

    def test_things_of_other_kinds(self):
        way = sample(REPLIES)
        for thing in (REPLIES, way.log(), str(way), len(way), None, True, way.shares()[0], object()):
            self.assertIs(way == thing, False)
            self.assertIs(way != thing, True)

    def test_text(self):
        self.assertEqual(str(Sample(1)), "sample 1:")
        self.assertEqual(str(sample(REPLIES)), "sample 0: 1/2 1/3 1 0")
        self.assertEqual(str(sample([(1, 2), NOUGHT, 3])), "sample 0: 1/2 0 3")
        way = sample(REPLIES)
        way.back()
        self.assertEqual(str(way), "sample 0: 1/2 1/3 1")


class Base(unittest.TestCase):
    def test_is_never_run_alone(self):
        way = Way("word", 0, 2)
        self.assertRaises(NotImplementedError, way.due)
        self.assertRaises(NotImplementedError, way.twin)


if __name__ == "__main__":
    unittest.main()
