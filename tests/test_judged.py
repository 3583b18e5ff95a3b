"""Tests of judgements: kept and broken links, the limit, and the looker at right and wrong papers."""

import unittest

from markedpair.channels import Channel, channels_of
from markedpair.deeds import Put
from markedpair.errors import BadCount, BadLink, BadRun, TooMany
from markedpair.judged import Broken, Kept, Verdict, judge
from markedpair.links import Link
from markedpair.look_judged import shows_judged
from markedpair.pictures import is_picture, moves, reached, start
from markedpair.runs import Run
from markedpair.steps import Act, Hear, Lose, Step
from tests import naive
from tests.links import AGAIN, DEAF, ONCE, PAIRS, SWAPPING, TWICE, chance_link, link_of, one_by_one, two_at_a_time
from tests.support import ANY, assert_raises, dice_of, integers_outside

NO_LINKS = [value for value in ANY if not isinstance(value, Link)]
KEPT = link_of(one_by_one(2), "1 loses", "1 loses")
BROKEN = link_of(AGAIN)


def judged(link):
    """What judge tells of a link, None if it tells too many."""
    try:
        return judge(link, 2000)
    except TooMany:
        return None


class TestPapers(unittest.TestCase):

    def test_any_values_are_kept(self):
        for value in ANY:
            self.assertIs(Kept(value, 1).one, value)
            self.assertIs(Kept(two=value, one=1).two, value)
            self.assertIs(Broken(steps=value).steps, value)
            self.assertTrue(Kept(value, value) == Kept(value, value))
            self.assertTrue(Broken(value) == Broken(value))
            self.assertIs(bool(Kept(value, value)), True)
            self.assertIs(bool(Broken(value)), False)

    def test_equal_papers(self):
        self.assertTrue(Kept(1, (2,)) == Kept(True, (2,)))
        for one, other in ((Kept(1, 2), Kept(2, 1)), (Kept(1, 2), Kept(1, 1)), (Kept(1, 2), Kept(2, 2)), (Broken(1), Broken(2)),
                           (Kept(1, 1), Broken(1)), (Broken(1), 1), (Kept(1, 2), None), (Kept((), ()), Kept([], ()))):
            self.assertFalse(one == other or other == one)
            self.assertTrue(one != other)

    def test_they_stand_below_verdict(self):
        self.assertTrue(issubclass(Kept, Verdict) and issubclass(Broken, Verdict))
        self.assertIsInstance(judge(KEPT), Verdict)


class TestJudge(unittest.TestCase):

    def test_errors(self):
        for value in NO_LINKS:
            assert_raises(self, BadLink("link"), judge, value)
            assert_raises(self, BadLink("link"), judge, limit=0, link=value)
        for value in integers_outside(1, 20000) + [20001]:
            assert_raises(self, BadCount(value), judge, KEPT, value)
            assert_raises(self, BadCount(value), judge, link=BROKEN, limit=value)

    def test_known_links(self):
        for link, many in (
            (link_of(AGAIN), 6), (link_of(TWICE), 2), (link_of(SWAPPING, "2"), 4), (link_of(SWAPPING), 4),
            (link_of(one_by_one(1)), 6), (link_of(one_by_one(1), "2", "2"), 5),
            (link_of(one_by_one(2)), None), (KEPT, None), (link_of(ONCE), None),
            (link_of(one_by_one(2), "2 doubles", "3 loses doubles"), None), (link_of(DEAF), None),
            (link_of(two_at_a_time(3), "1 loses", "1 loses"), None), (link_of(ONCE, "1 doubles"), 4),
        ):
            found = judge(link)
            if many is None:
                self.assertEqual(found, Kept(reached(link, 1), reached(link, 2)))
            else:
                self.assertIsInstance(found, Broken)
                self.assertEqual(len(found.steps), many)
            self.assertIs(shows_judged(link, found), True)
            self.assertEqual(judge(link, 20000), found)
        self.assertIsInstance(judge(link_of(two_at_a_time(2), "1 loses", "1 loses")), Broken)
        self.assertIsInstance(judge(link_of(one_by_one(2), "2 overtakes 1", "1")), Broken)

    def test_large_tables(self):
        for channel, one, two in (("2 loses doubles", 2280, 1449), ("3 loses doubles", 10182, 6081)):
            link = link_of(two_at_a_time(3), channel, channel)
            found = judge(link, 20000)
            self.assertEqual([len(found.one), len(found.two)], [one, two])
            self.assertEqual(found, Kept(reached(link, 1, 20000), reached(link, 2, 20000)))
            self.assertIs(shows_judged(link, found), True)
            self.assertIs(shows_judged(link, Kept(found.one, found.two[:-1])), False)
            assert_raises(self, TooMany("pictures", one - 1), judge, link, one - 1)

    def test_one_mark_is_not_enough(self):
        link = link_of(SWAPPING)
        self.assertFalse(any(change.breaks for picture in reached(link, 1) for change in moves(link, picture)))
        self.assertFalse(judge(link))

    def test_the_steps_break_at_the_last_one(self):
        dice, many = dice_of(31), 0
        while many < 25:
            link = chance_link(dice)
            found = judged(link)
            if isinstance(found, Broken):
                many += 1
                self.assertIsInstance(found.steps, tuple)
                self.assertIs(Run.of(link, found.steps[:-1]).is_true, True)
                self.assertIs(Run.of(link, found.steps).is_true, False)

    def test_as_all_runs_step_by_step(self):
        dice = dice_of(33)
        for _ in range(40):
            link = chance_link(dice, 1)
            found, most = judge(link, 3000), 5
            shortest = naive.shortest_break(link, most)
            if found or len(found.steps) > most:
                self.assertIsNone(shortest)
            else:
                self.assertEqual(len(found.steps), shortest)

    def test_limit(self):
        dice = dice_of(35)
        links = [KEPT, BROKEN, link_of(SWAPPING), link_of(TWICE), link_of(ONCE, "1 doubles"), link_of(two_at_a_time(2))]
        for link in links + [chance_link(dice, 1) for _ in range(20)]:
            needed = self.needed(link)
            if needed is not None:
                found = judge(link, 20000)
                self.assertEqual(judge(link, needed), found)
                if needed > 1:
                    assert_raises(self, TooMany("pictures", needed - 1), judge, link, needed - 1)
                    assert_raises(self, TooMany("pictures", 1), judge, limit=1, link=link)

    def needed(self, link):
        """The number of pictures that are reached by fewer steps than a shortest breaking run has."""
        found = [naive.levels(link, marks, 1500) for marks in (1, 2)]
        if any(sum(len(level) for level in levels) > 1500 for levels, _ in found):
            return None
        steps = min([breaks for _, breaks in found if breaks is not None], default=None)
        return max(sum(len(level) for level in levels[:steps]) for levels, _ in found)

    def test_pictures_behind_a_break_do_not_count(self):
        # The first step of the run breaks nothing, the second one does; more are reached by two steps than by one.
        link = link_of(TWICE)
        self.assertEqual(len(judge(link, 3).steps), 2)
        assert_raises(self, TooMany("pictures", 2), judge, link, 2)

    def test_within_and_renumbered(self):
        rough = link_of(one_by_one(2), "1 loses doubles overtakes 2", "1 loses doubles overtakes 2")
        self.assertTrue(judge(rough))
        for channel in channels_of(1):
            self.assertTrue(judge(rough.with_channels(channel, channel)))
        dice = dice_of(37)
        for _ in range(15):
            link = chance_link(dice, 1)
            other = link.renumbered({0: 2, 1: 5, 2: 0, 3: 1, 4: 3, 5: 4})
            one, two = judge(link, 3000), judge(other, 3000)
            self.assertIs(bool(one), bool(two))
            if one:
                self.assertEqual([len(one.one), len(one.two)], [len(two.one), len(two.two)])
            else:
                self.assertEqual(len(one.steps), len(two.steps))
                self.assertTrue(shows_judged(other, one) and shows_judged(link, two))


class TestShowsJudged(unittest.TestCase):

    def test_errors_and_any_values(self):
        for value in NO_LINKS:
            assert_raises(self, BadLink("link"), shows_judged, value, Kept((), ()))
            assert_raises(self, BadLink("link"), shows_judged, value=7, link=value)
        table = judge(KEPT)
        for value in ANY:
            for link in (KEPT, BROKEN):
                self.assertIs(shows_judged(link, value), False)
                self.assertIs(shows_judged(link, Broken(value)), False)
                self.assertIs(shows_judged(link, Broken((value,))), False)
                self.assertIs(shows_judged(link, Kept(value, table.two)), False)
                self.assertIs(shows_judged(link, Kept(table.one, value)), False)
                self.assertIs(shows_judged(link, Kept(table.one + (value,), table.two)), False)
                self.assertIs(shows_judged(link, Kept(table.one, (value,) + table.two)), False)

    def test_kinds_count(self):
        found, broken = judge(KEPT), judge(BROKEN)
        for wrong in (Kept(list(found.one), found.two), Kept(found.one, list(found.two)), (found.one, found.two),
                      Kept(found.two, found.one), Kept(found.one, found.one), Kept(found.one + found.two, found.two)):
            self.assertIs(shows_judged(KEPT, wrong), False)
        for wrong in (Broken(list(broken.steps)), broken.steps, Broken(broken.steps + (None,)), Broken((Step(),) + broken.steps)):
            self.assertIs(shows_judged(BROKEN, wrong), False)
        self.assertIs(shows_judged(KEPT, found), True)
        self.assertIs(shows_judged(value=broken, link=BROKEN), True)

    def test_order_and_repetitions_play_no_part(self):
        found = judge(KEPT)
        self.assertIs(shows_judged(KEPT, Kept(found.one[::-1], found.two[3:] + found.two[:5])), True)
        many = found.one * (20000 // len(found.one))
        self.assertIs(shows_judged(KEPT, Kept(many + found.one[:20000 - len(many)], found.two)), True)
        self.assertIs(shows_judged(KEPT, Kept(many + found.one[:20001 - len(many)], found.two)), False)
        many = found.two * (20000 // len(found.two) + 1)
        self.assertIs(shows_judged(KEPT, Kept(found.one, many[:20000])), True)
        self.assertIs(shows_judged(KEPT, Kept(found.one, many[:20001])), False)

    def test_a_table_without_one_of_its_pictures_is_not_closed(self):
        for link in (KEPT, link_of(ONCE), link_of(DEAF)):
            found = judge(link)
            for at in range(len(found.one)):
                self.assertIs(shows_judged(link, Kept(found.one[:at] + found.one[at + 1:], found.two)), False)
            for at in range(len(found.two)):
                self.assertIs(shows_judged(link, Kept(found.one, found.two[:at] + found.two[at + 1:])), False)
        self.assertIs(shows_judged(KEPT, Kept((), ())), False)

    def test_more_pictures_than_are_reached(self):
        less = KEPT.with_channels(Channel(1), Channel(1))
        found = judge(KEPT)
        self.assertLess(len(judge(less).one), len(found.one))
        self.assertIs(shows_judged(less, found), True)
        self.assertIs(shows_judged(KEPT, judge(less)), False)
        # A picture that leads into the table, or nowhere, can stand in it; one that leads out cannot.
        alone = "1 1 7 a 5. 9 . 3"
        self.assertIs(shows_judged(KEPT, Kept(found.one + (alone,), found.two)), False)
        still = KEPT.with_channels(Channel(1), Channel(1))
        self.assertIs(shows_judged(still, Kept(found.one + (alone,), found.two)), True)
        self.assertIs(shows_judged(still, Kept(found.one + ("1 2 7 - 5. 9 . 3",), found.two)), False)
        self.assertIs(shows_judged(still, Kept(found.one + ("1 1 0 a 0. 0 - -",), found.two)), False)

    def test_a_table_with_a_picture_that_breaks(self):
        link = link_of(one_by_one(2))
        found = judge(link)
        for extra, more in (("1 2 0 - 0a 0 - -", ()), ("2 2 0 - 0b 0 - -", ())):
            self.assertTrue(is_picture(link, extra) and any(change.breaks for change in moves(link, extra)))
            paper = Kept(found.one + (extra,), found.two) if extra[0] == "1" else Kept(found.one, found.two + (extra,))
            self.assertIs(shows_judged(link, paper), False)

    def test_a_broken_link_has_no_closed_tables(self):
        for pair in PAIRS:
            link = link_of(pair, "2 loses", "1")
            found = judge(link)
            if not found:
                self.assertIs(shows_judged(link, Kept(reached(link, 1), reached(link, 2))), False)

    def test_runs_that_break_somewhere(self):
        steps = judge(BROKEN).steps
        self.assertIs(shows_judged(BROKEN, Broken(())), False)
        for many in range(len(steps)):
            self.assertIs(shows_judged(BROKEN, Broken(steps[:many])), False)
        further = steps + (Act("sender", 0), Act("sender", 1))
        self.assertIs(shows_judged(BROKEN, Broken(further)), True)
        self.assertIs(shows_judged(BROKEN, Broken(further + (Act("sender", 1), ))), False)
        self.assertIs(shows_judged(BROKEN, Broken(steps + (Lose("down", 0),))), False)
        for at in range(len(steps)):
            for other in (Act("sender", 2), Act("receiver", 9), Hear("receiver", 0, 1), Lose("up", 0)):
                self.assertIs(shows_judged(BROKEN, Broken(steps[:at] + (other,) + steps[at + 1:])), False)
        self.assertIs(shows_judged(KEPT, Broken(steps)), False)
        assert_raises(self, BadRun(6), Run.of, BROKEN, steps + (None,))

    def test_long_runs(self):
        link = link_of(TWICE)
        self.assertIsInstance(link.receiver[0].deeds[0], Put)
        steps = judge(link).steps
        idle = link_of((AGAIN[0] + link.sender[0].read("0 : - > 1") + link.sender[0].read("1 : - > 0"), AGAIN[1]))
        rest = judge(idle).steps
        for many, right in ((20000, True), (20001, False)):
            pairs = (Act("sender", 3), Act("sender", 4)) * 10000
            told = pairs[:many - len(rest) - many % 2] + rest + (Act("sender", 3),) * (many % 2)
            self.assertEqual(len(told), many)
            self.assertIs(shows_judged(idle, Broken(told)), right)
        self.assertIs(shows_judged(link, Broken(steps)), True)

    def test_what_judge_tells_is_shown(self):
        dice = dice_of(39)
        for _ in range(30):
            link = chance_link(dice, 1)
            found = judge(link, 3000)
            self.assertIs(shows_judged(link, found), True)
            other = chance_link(dice, 1)
            if found:
                closed = naive_closed(other, found.one, 1) and naive_closed(other, found.two, 2)
                self.assertIs(shows_judged(other, found), closed)


def naive_closed(link, table, marks):
    """Whether a tuple of pictures is a closed table."""
    if start(link, marks) not in table or not all(is_picture(link, picture) for picture in table):
        return False
    changes = [change for picture in table for change in naive.moves(link, picture)]
    return not any(breaks or then is not None and then not in table for _, _, then, breaks in changes)
