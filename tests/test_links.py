"""Tests of markedpair.links."""

import itertools
import unittest

from markedpair.channels import Channel, Doubles, Loses, channels_of
from markedpair.ends import Receiver, Sender
from markedpair.errors import BadLink
from markedpair.links import Link
from tests.support import ANY, RECEIVER, SENDER, assert_raises

DOWN, UP = Channel(2, Loses()), Channel(1)
NAMES = ["sender", "receiver", "down", "up"]
RIGHT = [SENDER, RECEIVER, DOWN, UP]
KINDS = [Sender, Receiver, Channel, Channel]
NO_LINKS = [value for value in ANY if not isinstance(value, Link)]


def wrong_values(at):
    """The values of all kinds that cannot stand for the part at an index."""
    return [value for value in ANY if not isinstance(value, KINDS[at])]


class TestLinksMade(unittest.TestCase):

    def test_by_position_and_by_name(self):
        for link in (Link(*RIGHT), Link(**dict(zip(NAMES, RIGHT))), Link(SENDER, RECEIVER, up=UP, down=DOWN)):
            self.assertEqual(list(vars(link)), NAMES)
            for name, part in zip(NAMES, RIGHT):
                self.assertIs(getattr(link, name), part)

    def test_one_wrong_part(self):
        for at, name in enumerate(NAMES):
            for value in wrong_values(at):
                parts = RIGHT[:at] + [value] + RIGHT[at + 1:]
                assert_raises(self, BadLink(name), Link, *parts)
                assert_raises(self, BadLink(name), Link, **dict(zip(NAMES, parts)))

    def test_two_wrong_parts_tell_the_first_one(self):
        for one, other in itertools.combinations(range(4), 2):
            for value in wrong_values(one):
                for more in (None, 1, [], RECEIVER if other != 1 else SENDER):
                    parts = list(RIGHT)
                    parts[one], parts[other] = value, more
                    assert_raises(self, BadLink(NAMES[one]), Link, *parts)

    def test_equality(self):
        link = Link(*RIGHT)
        again = Link(Sender.read(str(SENDER)), Receiver.read(str(RECEIVER)), Channel.read(str(DOWN)), Channel(1))
        self.assertIs(link == again, True)
        self.assertIs(link != again, False)
        others = [Sender(), Receiver(), Channel(2), Channel(1, Doubles())]
        for at in range(4):
            other = Link(*RIGHT[:at], others[at], *RIGHT[at + 1:])
            self.assertIs(link == other, False)
            self.assertIs(other == link, False)
        for value in NO_LINKS + [tuple(RIGHT), RIGHT]:
            self.assertIs(link == value, False)
            self.assertIs(value == link, False)


class TestLinksChanged(unittest.TestCase):

    def setUp(self):
        self.link = Link(*RIGHT)

    def tearDown(self):
        self.assertEqual([getattr(self.link, name) for name in NAMES], RIGHT)

    def test_mixed(self):
        other = Link(Sender(), Receiver(), Channel(3), Channel(3))
        self.assertEqual(self.link.mixed(other), Link(SENDER, Receiver(), DOWN, UP))
        self.assertEqual(other.mixed(other=self.link), Link(Sender(), RECEIVER, Channel(3), Channel(3)))
        for value in NO_LINKS:
            assert_raises(self, BadLink("other"), self.link.mixed, value)
            assert_raises(self, BadLink("other"), self.link.mixed, other=value)

    def test_within(self):
        channels = [channel for capacity in (1, 2) for channel in channels_of(capacity)]
        one = self.link
        for channel in channels:
            other = one.with_channels(channel)
            self.assertIs(one.within(other), one.down.within(channel))
            self.assertIs(other.within(other=one), channel.within(one.down))
            other = one.with_channels(up=channel)
            self.assertIs(one.within(other), one.up.within(channel))
            self.assertIs(other.within(one), channel.within(one.up))
        self.assertIs(one.within(Link(*RIGHT)), True)
        self.assertIs(one.within(Link(Sender(), RECEIVER, DOWN, UP)), False)
        self.assertIs(one.within(Link(SENDER, Receiver(), DOWN, UP)), False)
        for value in NO_LINKS:
            assert_raises(self, BadLink("other"), one.within, value)
            assert_raises(self, BadLink("other"), one.within, other=value)

    def test_with_channels(self):
        new = Channel(3, Doubles())
        self.assertEqual(self.link.with_channels(), self.link)
        self.assertEqual(self.link.with_channels(None, None), self.link)
        self.assertEqual(self.link.with_channels(new), Link(SENDER, RECEIVER, new, UP))
        self.assertEqual(self.link.with_channels(None, new), Link(SENDER, RECEIVER, DOWN, new))
        self.assertEqual(self.link.with_channels(up=UP, down=new), Link(SENDER, RECEIVER, new, UP))
        for value in wrong_values(2):
            if value is not None:
                assert_raises(self, BadLink("down"), self.link.with_channels, value)
                assert_raises(self, BadLink("down"), self.link.with_channels, value, value)
                assert_raises(self, BadLink("down"), self.link.with_channels, down=value, up=0)
                assert_raises(self, BadLink("up"), self.link.with_channels, None, value)
                assert_raises(self, BadLink("up"), self.link.with_channels, up=value)


class TestLinksRenumbered(unittest.TestCase):

    def setUp(self):
        sender = Sender.read("0 : send 0 1 , send 0 2 > 0 ; 0 hear 4 : - > 0")
        receiver = Receiver.read("0 hear 1 : put 0 , answer 4 > 0 ; 0 hear other : answer 5 > 0")
        self.link = Link(sender, receiver, DOWN, UP)

    def test_right_tables(self):
        table = {1: 0, 2: 5, 4: 1, 5: 2}
        new = self.link.renumbered(table)
        self.assertEqual(str(new.sender), "0 : send 0 0 , send 0 5 > 0 ; 0 hear 1 : - > 0")
        self.assertEqual(str(new.receiver), "0 hear 0 : put 0 , answer 1 > 0 ; 0 hear other : answer 2 > 0")
        self.assertEqual([new.down, new.up], [DOWN, UP])
        self.assertEqual(new.renumbered(table={0: 1, 5: 2, 1: 4, 2: 5}), self.link)
        self.assertEqual(self.link.renumbered({1: 1, 2: 2, 4: 4, 5: 5}), self.link)
        self.assertEqual(table, {1: 0, 2: 5, 4: 1, 5: 2})

    def test_further_keys_play_no_part(self):
        wanted = self.link.renumbered({1: 0, 2: 5, 4: 1, 5: 2})
        for more in [{0: 0}, {3: None}, {0: 5, 3: "x"}, {None: 1}, {"1": 5}, {(1,): 0, -1: 1}, {6: 0, 7: []}, {False: 0}]:
            self.assertEqual(self.link.renumbered({**more, 1: 0, 2: 5, 4: 1, 5: 2}), wanted)
            self.assertEqual(self.link.renumbered({1: 0, 2: 5, 4: 1, 5: 2, **more}), wanted)
        bare = Link(Sender(), Receiver(), DOWN, UP)
        for table in ({}, {0: 0}, {True: None}, {"a": 1}):
            self.assertEqual(bare.renumbered(table), bare)

    def test_wrong_tables(self):
        for table in ANY + [
            {1: 0, 2: 5, 4: 1}, {2: 5, 4: 1, 5: 2}, {1: 0, 4: 1, 5: 2}, {1: 0, 2: 5, 5: 2}, {1: 0, 2: 0, 4: 1, 5: 2},
            {1: 0, 2: 1, 4: 2, 5: 0}, {1: 0, 2: 5, 4: 1, 5: 6}, {1: 0, 2: 5, 4: -1, 5: 2}, {1: True, 2: 5, 4: 0, 5: 2},
            {1: 0, 2: 5, 4: 1, 5: None}, {1: 0, 2: 5, 4: 1, 5: [2]}, {1: 0, 2: 5, 4: 1, 5: "2"}, {1: 0, 2: 5, 4: 1, 5: {}},
            {True: 0, 2: 5, 4: 1, 5: 2}, {1: 0, 2: 5, 4: 1, "5": 2}, [0, 0, 5, 0, 1, 2], ((1, 0), (2, 5), (4, 1), (5, 2)),
        ]:
            assert_raises(self, BadLink("table"), self.link.renumbered, table)
            assert_raises(self, BadLink("table"), self.link.renumbered, table=table)
        bare = Link(Sender(), Receiver(), DOWN, UP)
        assert_raises(self, BadLink("table"), bare.renumbered, None)
        assert_raises(self, BadLink("table"), bare.renumbered, [])
