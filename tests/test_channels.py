"""Tests of markedpair.channels."""

import itertools
import unittest

from markedpair.channels import Channel, Doubles, Fault, Loses, Overtakes, channels_of
from markedpair.errors import BadChannel, BadCount
from tests.support import ANY, assert_raises, assert_read, assert_reads_only_strings, dice_of, edited
from tests.support import first_wrong_word, integers_outside, single_edits

FAULTS = [Loses(), Doubles(), Overtakes(1), Overtakes(2)]
NO_FAULTS = [value for value in ANY if not isinstance(value, Fault)]
NO_CHANNELS = [value for value in ANY if not isinstance(value, Channel)]
VOCABULARY = [
    "0", "1", "2", "3", "4", "01", "+1", "-1", "", "loses", "doubles", "overtakes", "Loses", "lose", "-", ",", "x", "2\n",
]
# All channels there are: capacity, whether it loses, whether it doubles, by how many it overtakes; and its text.
PARTS = [
    (capacity, loses, doubles, by)
    for capacity in (1, 2, 3) for loses in (False, True) for doubles in (False, True) for by in (0, 1, 2)
]


def text_of(parts):
    """The text of the channel with these parts."""
    capacity, loses, doubles, by = parts
    return f"{capacity}" + " loses" * loses + " doubles" * doubles + (f" overtakes {by}" if by else "")


def channel_of(parts):
    """The channel with these parts."""
    capacity, loses, doubles, by = parts
    return Channel(capacity, *[Loses()] * loses, *[Doubles()] * doubles, *([Overtakes(by)] if by else []))


class TestFaults(unittest.TestCase):

    def test_classes(self):
        for kind in (Loses, Doubles, Overtakes):
            self.assertEqual(kind.__bases__, (Fault,))

    def test_overtakes(self):
        self.assertEqual([Overtakes(1).by, Overtakes(by=2).by], [1, 2])
        for value in integers_outside(1, 2):
            assert_raises(self, BadChannel("by"), Overtakes, value)
            assert_raises(self, BadChannel("by"), Overtakes, by=value)

    def test_equality(self):
        again = [Loses(), Doubles(), Overtakes(1), Overtakes(2)]
        for at, one in enumerate(FAULTS):
            self.assertTrue(one == one)
            for k, other in enumerate(again):
                self.assertIs(one == other, at == k)
                self.assertIs(one != other, at != k)
            for value in NO_FAULTS:
                self.assertIs(one == value, False)
                self.assertIs(value == one, False)

    def test_texts(self):
        self.assertEqual([str(fault) for fault in FAULTS], ["loses", "doubles", "overtakes 1", "overtakes 2"])


class TestChannelsMade(unittest.TestCase):

    def test_all_capacities_and_sets_of_faults_in_any_order(self):
        self.assertEqual(Channel.MOST, 3)
        for parts in PARTS:
            capacity, loses, doubles, by = parts
            faults = list(channel_of(parts))
            for mixed in itertools.permutations(faults):
                channel = Channel(capacity, *mixed)
                self.assertEqual([channel.capacity, channel.loses, channel.doubles, channel.overtakes], list(parts))
                self.assertIs(type(channel.loses), bool)
                self.assertIs(type(channel.doubles), bool)
                self.assertEqual(channel, channel_of(parts))
                self.assertEqual(" ".join([str(capacity)] + [str(fault) for fault in channel]), text_of(parts))
        self.assertEqual(Channel(capacity=2), Channel(2))

    def test_wrong_capacities(self):
        for value in integers_outside(1, 3):
            assert_raises(self, BadChannel("capacity"), Channel, value)
            assert_raises(self, BadChannel("capacity"), Channel, capacity=value)
            assert_raises(self, BadChannel("capacity"), Channel, value, None, Loses())

    def test_wrong_faults(self):
        for value in NO_FAULTS:
            assert_raises(self, BadChannel("faults"), Channel, 1, value)
            assert_raises(self, BadChannel("faults"), Channel, 3, Loses(), value)
            assert_raises(self, BadChannel("faults"), Channel, 2, value, Doubles(), Overtakes(1))

    def test_two_faults_of_one_class(self):
        for pair in [(Loses(), Loses()), (Doubles(), Doubles()), (Overtakes(1), Overtakes(1)), (Overtakes(1), Overtakes(2))]:
            assert_raises(self, BadChannel("faults"), Channel, 1, *pair)
            assert_raises(self, BadChannel("faults"), Channel, 1, pair[0], Doubles(), pair[1], Loses())

    def test_two_walks_at_once(self):
        channel = Channel(1, Overtakes(2), Loses())
        self.assertEqual(len([0 for _ in channel for _ in channel]), 4)
        one, other = iter(channel), iter(channel)
        self.assertEqual([str(next(one)), str(next(one)), str(next(other))], ["loses", "overtakes 2", "loses"])
        self.assertEqual(list(Channel(3)), [])

    def test_equality(self):
        for one in PARTS:
            for other in PARTS:
                self.assertIs(channel_of(one) == channel_of(other), one == other)
                self.assertIs(channel_of(one) != channel_of(other), one != other)
        channel = Channel(3, Doubles())
        for value in ANY + ["3 doubles", (3, Doubles()), [Doubles()]]:
            self.assertIs(channel == value, False)
            self.assertIs(value == channel, False)


class TestFaultsPutInAndOut(unittest.TestCase):

    def test_in(self):
        for parts in PARTS:
            channel = channel_of(parts)
            told = [fault in channel for fault in FAULTS]
            self.assertEqual(told, [parts[1], parts[2], parts[3] >= 1, parts[3] == 2])
            self.assertTrue(all(type(value) is bool for value in told))
        rough = Channel(3, *FAULTS[:2], Overtakes(2))
        for value in NO_FAULTS + ["loses", "overtakes 1", Channel(1), 2]:
            self.assertIs(value in rough, False)

    def test_put_in(self):
        for parts in PARTS:
            channel = channel_of(parts)
            capacity, loses, doubles, by = parts
            told = [str(channel + fault) for fault in FAULTS]
            self.assertEqual(told, [
                text_of((capacity, True, doubles, by)), text_of((capacity, loses, True, by)),
                text_of((capacity, loses, doubles, max(by, 1))), text_of((capacity, loses, doubles, 2)),
            ])
            self.assertEqual(str(channel), text_of(parts))

    def test_taken_out(self):
        for parts in PARTS:
            channel = channel_of(parts)
            capacity, loses, doubles, by = parts
            told = [str(channel - fault) for fault in FAULTS]
            self.assertEqual(told, [
                text_of((capacity, False, doubles, by)), text_of((capacity, loses, False, by)),
                text_of((capacity, loses, doubles, 0)), text_of((capacity, loses, doubles, 0)),
            ])
            self.assertEqual(str(channel), text_of(parts))

    def test_what_is_no_fault(self):
        for channel in (Channel(1), Channel(3, *FAULTS[:3])):
            for value in NO_FAULTS:
                assert_raises(self, BadChannel("fault"), lambda: channel + value)
                assert_raises(self, BadChannel("fault"), lambda: channel - value)

    def test_in_place(self):
        channel = elder = Channel(1)
        channel += Loses()
        self.assertEqual([str(channel), str(elder)], ["1 loses", "1"])
        channel -= Loses()
        self.assertEqual(str(channel), "1")


class TestChannelsMetAndJoined(unittest.TestCase):

    def test_all_pairs(self):
        for one in PARTS:
            for other in PARTS:
                left, right = channel_of(one), channel_of(other)
                met = tuple(min(pair) for pair in zip(one, other))
                joined = tuple(max(pair) for pair in zip(one, other))
                self.assertEqual(str(left & right), text_of(met))
                self.assertEqual(str(left | right), text_of(joined))
                within = all(pair[0] <= pair[1] for pair in zip(one, other))
                self.assertIs(left.within(right), within)
                self.assertIs(left.within(other=right), within)
                self.assertEqual([str(left), str(right)], [text_of(one), text_of(other)])

    def test_what_is_no_channel(self):
        for channel in (Channel(1), Channel(2, Loses(), Doubles())):
            for value in NO_CHANNELS:
                assert_raises(self, BadChannel("other"), lambda: channel & value)
                assert_raises(self, BadChannel("other"), lambda: channel | value)
                assert_raises(self, BadChannel("other"), channel.within, value)
                assert_raises(self, BadChannel("other"), channel.within, other=value)


class TestChannelsOf(unittest.TestCase):

    def test_all_capacities(self):
        for capacity in (1, 2, 3):
            wanted = [text_of(parts) for parts in PARTS if parts[0] == capacity]
            self.assertEqual(len(wanted), 12)
            self.assertEqual([str(channel) for channel in channels_of(capacity)], wanted)
            self.assertEqual([str(channel) for channel in channels_of(capacity=capacity)], wanted)

    def test_each_stands_behind_those_within_it(self):
        channels = list(channels_of(3))
        for at, one in enumerate(channels):
            for other in channels[:at]:
                self.assertFalse(one.within(other))

    def test_two_generators_side_by_side(self):
        one, other = channels_of(1), channels_of(3)
        told = [str(next(one)), str(next(one)), str(next(other)), str(next(one)), str(next(other))]
        self.assertEqual(told, ["1", "1 overtakes 1", "3", "1 overtakes 2", "3 overtakes 1"])
        self.assertIs(iter(one), one)
        self.assertEqual([len(list(one)), len(list(other))], [9, 10])

    def test_other_capacities(self):
        for value in integers_outside(1, 3):
            assert_raises(self, BadCount(value), lambda: next(channels_of(value)))
            assert_raises(self, BadCount(value), lambda: list(channels_of(capacity=value)))


class TestChannelsWrittenAndRead(unittest.TestCase):

    def setUp(self):
        self.whole = {tuple(text_of(parts).split(" ")) for parts in PARTS}
        self.begun = {words[:many] for words in self.whole for many in range(1, 6)}

    def wrong_word(self, text):
        return first_wrong_word(text, lambda words: tuple(words) in self.begun, lambda words: tuple(words) in self.whole)

    def test_all_channels(self):
        self.assertEqual(len(self.whole), 36)
        for parts in PARTS:
            self.assertEqual(str(channel_of(parts)), text_of(parts))
            self.assertEqual(Channel.read(text_of(parts)), channel_of(parts))
            self.assertEqual(Channel.read(text=text_of(parts)), channel_of(parts))

    def test_by_hand(self):
        for text, wrong in [
            ("", 0), (" ", 0), ("0", 0), ("4", 0), ("01", 0), ("1 ", 1), (" 1", 0), ("1  loses", 1), ("1 doubles loses", 2),
            ("1 loses loses", 2), ("1 overtakes", 2), ("1 overtakes 0", 2), ("1 overtakes 3", 2),
            ("1 overtakes 1 overtakes 2", 3), ("3 loses doubles overtakes 2 ", 5), ("1\n", 0), ("loses", 0),
        ]:
            self.assertEqual(self.wrong_word(text), wrong, text)
            assert_read(self, Channel.read, text, wrong)

    def test_texts_with_edits(self):
        dice = dice_of(47)
        for parts in PARTS:
            for text in single_edits(text_of(parts), VOCABULARY):
                assert_read(self, Channel.read, text, self.wrong_word(text))
        for _ in range(3000):
            text = edited(text_of(dice.choice(PARTS)), VOCABULARY, dice.choice([2, 3]), dice)
            assert_read(self, Channel.read, text, self.wrong_word(text))

    def test_what_is_no_string(self):
        assert_reads_only_strings(self, Channel.read)
