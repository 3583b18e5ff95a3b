"""Tests of borne faults: the greatest kept and the least broken channels, and the looker at right and wrong papers."""

import unittest

from markedpair.borne import Borne, borne
from markedpair.channels import Channel, channels_of
from markedpair.errors import BadCount, BadLink, TooMany
from markedpair.judged import Broken, Kept, Verdict, judge
from markedpair.links import Link
from markedpair.look_borne import shows_borne
from markedpair.look_judged import shows_judged
from tests.links import AGAIN, DEAF, ONCE, SWAPPING, TWICE, chance_link, link_of, one_by_one, two_at_a_time
from tests.support import ANY, assert_raises, dice_of, integers_outside

NO_LINKS = [value for value in ANY if not isinstance(value, Link)]
CALM = link_of(ONCE)
BOTH = link_of(one_by_one(2), "2", "1 loses")


def with_channel(link, way, channel):
    """The link with another channel on a way."""
    return Link(link.sender, link.receiver, *((channel, link.up) if way == "down" else (link.down, channel)))


def naive_borne(link, way, limit=20000):
    """What borne tells, by judging all twelve channels."""
    capacity = (link.down if way == "down" else link.up).capacity
    told = [(channel, judge(with_channel(link, way, channel), limit)) for channel in channels_of(capacity)]
    kept = [(channel, paper) for channel, paper in told if paper]
    broken = [(channel, paper) for channel, paper in told if not paper]
    greatest = [pair for pair in kept if not any(pair[0].within(other) and pair[0] != other for other, _ in kept)]
    least = [pair for pair in broken if not any(other.within(pair[0]) and pair[0] != other for other, _ in broken)]
    return Borne(tuple(greatest), tuple(least))


def texts(pairs):
    """The texts of the channels of pairs."""
    return [str(channel) for channel, _ in pairs]


class TestPaper(unittest.TestCase):

    def test_any_values_are_kept(self):
        for value in ANY:
            paper = Borne(value, [value])
            self.assertTrue(paper.kept is value and paper.broken[0] is value and paper)
            self.assertTrue(paper == Borne(broken=[value], kept=value))
        for one, other in ((Borne(1, 2), Borne(1, 1)), (Borne(1, 2), Borne(2, 2)), (Borne((), ()), Kept((), ())), (Borne(1, 1), 1)):
            self.assertFalse(one == other or other == one)
        self.assertNotIsInstance(Borne((), ()), Verdict)


class TestBorne(unittest.TestCase):

    def test_errors(self):
        for value in NO_LINKS:
            assert_raises(self, BadLink("link"), borne, value, "none", 0)
            assert_raises(self, BadLink("link"), borne, limit=0, way=None, link=value)
        for value in ANY:
            if value not in ("down", "up"):
                assert_raises(self, BadLink("way"), borne, CALM, value, 0)
                assert_raises(self, BadLink("way"), borne, way=value, link=CALM)
        for value in integers_outside(1, 20000) + [20001]:
            assert_raises(self, BadCount(value), borne, CALM, "down", value)
            assert_raises(self, BadCount(value), borne, CALM, "up", limit=value)

    def test_both_ways(self):
        for link, way, kept, broken in (
            (CALM, "down", ["1 loses overtakes 2"], ["1 doubles"]), (CALM, "up", ["1 loses doubles overtakes 2"], []),
            (BOTH, "down", ["2 loses doubles"], ["2 overtakes 1"]), (BOTH, "up", ["1 loses doubles overtakes 2"], []),
            (link_of(DEAF, "3", "2"), "down", ["3 loses doubles overtakes 2"], []),
            (link_of(DEAF, "3", "2"), "up", ["2 loses doubles overtakes 2"], []),
            (link_of(TWICE), "down", [], ["1"]), (link_of(AGAIN), "up", [], ["1"]),
        ):
            found = borne(link, way)
            self.assertEqual([texts(found.kept), texts(found.broken)], [kept, broken])
            self.assertEqual(borne(link=link, way=way, limit=20000), found)
            self.assertIs(shows_borne(link, way, found), True)

    def test_the_papers_are_those_of_judge(self):
        found = borne(CALM, "down")
        self.assertIsInstance(found.kept, tuple)
        self.assertIsInstance(found.broken, tuple)
        for channel, paper in found.kept + found.broken:
            self.assertEqual(paper, judge(CALM.with_channels(down=channel)))
        self.assertEqual([type(pair) for pair in found.kept + found.broken], [tuple, tuple])

    def test_as_all_twelve(self):
        dice, many, several = dice_of(51), 0, 0
        while many < 15 or several < 2:
            link, way = chance_link(dice), dice.choice(["down", "up"])
            try:
                wanted = naive_borne(link, way, 1200)
            except TooMany:
                continue
            many += 1
            several += len(wanted.kept + wanted.broken) > 2
            self.assertEqual(borne(link, way, 1200), wanted)
            self.assertIs(shows_borne(link, way, wanted), True)

    def test_limit(self):
        for link, way in ((CALM, "down"), (CALM, "up"), (BOTH, "down"), (link_of(SWAPPING), "down"), (link_of(AGAIN), "up")):
            needed = self.needed(link, way)
            self.assertEqual(borne(link, way, needed), borne(link, way))
            assert_raises(self, TooMany("pictures", needed - 1), borne, link, way, needed - 1)

    def needed(self, link, way):
        """The least limit with which each channel that is judged can be."""
        found, needed = borne(link, way), 0
        for channel in channels_of((link.down if way == "down" else link.up).capacity):
            if not any(least.within(channel) and least != channel for least, _ in found.broken):
                needed = max(needed, self.needed_by_judge(with_channel(link, way, channel)))
        return needed

    def needed_by_judge(self, link):
        limit = 1
        while True:
            try:
                judge(link, limit)
                return limit
            except TooMany:
                limit += 1


class TestShowsBorne(unittest.TestCase):

    def test_errors_and_any_values(self):
        found = borne(CALM, "down")
        for value in NO_LINKS:
            assert_raises(self, BadLink("link"), shows_borne, value, None, found)
            assert_raises(self, BadLink("link"), shows_borne, value=found, way=7, link=value)
        kept, broken = found.kept, found.broken
        for value in ANY:
            if value not in ("down", "up"):
                assert_raises(self, BadLink("way"), shows_borne, CALM, value, found)
            for wrong in (value, Borne(value, broken), Borne((value,), broken), Borne(kept, (value,)), Borne(kept + (value,), broken),
                          Borne(((kept[0][0], value),), broken), Borne(kept, ((broken[0][0], value),)),
                          Borne(((value, kept[0][1]),), broken), Borne(kept, ((value, broken[0][1]),)),
                          Borne((kept[0] + (value,),), broken)):
                if wrong != found:
                    self.assertIs(shows_borne(CALM, "down", wrong), False)
        self.assertIs(shows_borne(value=found, way="down", link=CALM), True)

    def test_kinds_count(self):
        found = borne(CALM, "down")
        for wrong in (Borne(list(found.kept), found.broken), Borne(found.kept, list(found.broken)), (found.kept, found.broken),
                      Borne(tuple(list(pair) for pair in found.kept), found.broken), Borne(found.broken, found.kept),
                      Borne(found.kept, ()), Borne((), found.broken), Borne((), ()), Borne(found.kept + found.kept, found.broken)):
            self.assertIs(shows_borne(CALM, "down", wrong), False)
        self.assertIs(shows_borne(CALM, "up", found), False)

    def test_channels_of_another_capacity(self):
        found = borne(link_of(DEAF), "up")
        self.assertIs(shows_borne(link_of(DEAF), "up", found), True)
        self.assertIs(shows_borne(link_of(DEAF, "1", "2"), "up", found), False)
        other = Borne(((Channel.read("2 loses doubles overtakes 2"), found.kept[0][1]),), ())
        self.assertTrue(shows_judged(link_of(DEAF).with_channels(up=other.kept[0][0]), other.kept[0][1]))
        self.assertIs(shows_borne(link_of(DEAF), "up", other), False)

    def test_each_channel_is_covered(self):
        channels = {str(channel): (channel, judge(CALM.with_channels(down=channel))) for channel in channels_of(1)}
        for kept, broken, right in (
            (["1 loses overtakes 2"], ["1 doubles"], True), (["1 loses overtakes 1"], ["1 doubles"], False),
            (["1 overtakes 2", "1 loses"], ["1 doubles"], False), (["1 loses overtakes 2"], ["1 doubles overtakes 1"], False),
            (["1 loses overtakes 2"], ["1 loses doubles"], False), (["1 loses overtakes 2", "1 loses"], ["1 doubles"], False),
            (["1 loses", "1 loses overtakes 2"], ["1 doubles"], False), (["1 loses overtakes 2"], ["1 doubles", "1 loses doubles"], False),
            (["1 loses overtakes 2"], ["1 loses doubles", "1 doubles"], False), (["1 loses overtakes 2"], ["1 doubles"] * 2, False),
            ([], ["1 doubles"], False), (["1 loses overtakes 2"], [], False), (["1 overtakes 2"], ["1 doubles"], False),
        ):
            paper = Borne(tuple(channels[text] for text in kept), tuple(channels[text] for text in broken))
            self.assertIs(shows_borne(CALM, "down", paper), right, (kept, broken))

    def test_their_order(self):
        link = self.link_of_two_kept()
        found = borne(link, "down")
        self.assertGreater(len(found.kept) + len(found.broken), 2)
        self.assertIs(shows_borne(link, "down", found), True)
        for wrong in (Borne(found.kept[::-1], found.broken), Borne(found.kept, found.broken[::-1])):
            self.assertIs(shows_borne(link, "down", wrong), wrong == found)
        self.assertNotEqual(Borne(found.kept[::-1], found.broken[::-1]), found)

    def link_of_two_kept(self):
        """A link by chance that bears some faults down, and not others, with several greatest or least channels."""
        dice = dice_of(53)
        while True:
            link = chance_link(dice)
            try:
                found = borne(link, "down", 600)
            except TooMany:
                continue
            if len(found.kept) > 1 or len(found.broken) > 1:
                return link

    def test_each_paper_is_looked_at(self):
        found = borne(CALM, "down")
        (channel, kept), (least, broken) = found.kept[0], found.broken[0]
        for wrong in (Kept(kept.one[:-1], kept.two), Kept(kept.one, ()), judge(CALM), broken, Broken(()), Broken(broken.steps[:-1])):
            self.assertIs(shows_borne(CALM, "down", Borne(((channel, wrong),), found.broken)), False)
        for wrong in (Broken(broken.steps[:-1]), Broken(()), kept, judge(CALM)):
            self.assertIs(shows_borne(CALM, "down", Borne(found.kept, ((least, wrong),))), False)
        self.assertIs(shows_borne(CALM, "down", Borne(((channel, Kept(kept.one[::-1], kept.two * 2)),), found.broken)), True)

    def test_a_kept_paper_is_no_broken_one(self):
        # Each paper is right for its channel, but stands in the wrong list.
        link = link_of(DEAF)
        all_kept = tuple((channel, judge(link.with_channels(down=channel))) for channel in channels_of(1))
        self.assertIs(shows_borne(link, "down", Borne((), all_kept[:1])), False)
        self.assertIs(shows_borne(link, "down", Borne(all_kept[-1:], ())), True)
        link = link_of(TWICE)
        first = (Channel(1), judge(link))
        self.assertIs(shows_borne(link, "down", Borne((), (first,))), True)
        last = (Channel.read("1 loses doubles overtakes 2"), judge(link))
        self.assertTrue(shows_judged(link.with_channels(down=last[0]), last[1]))
        self.assertIs(shows_borne(link, "down", Borne((last,), ())), False)

    def test_what_borne_tells_is_shown(self):
        for pair in (one_by_one(2), two_at_a_time(2), two_at_a_time(3), SWAPPING):
            for way in ("down", "up"):
                link = link_of(pair)
                self.assertIs(shows_borne(link, way, borne(link, way)), True)
