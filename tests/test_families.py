"""Tests of families: all rows against the tables of the document, least numbers, and the facts about kept and broken."""

import unittest

from markedpair.channels import Channel, Loses
from markedpair.ends import Receiver, Sender
from markedpair.errors import BadChannel, BadCount, BadName, TooMany
from markedpair.families import all_so_far, each_by_itself, least_numbers, one_by_one
from markedpair.going import goes_on
from markedpair.judged import judge
from markedpair.links import Link
from tests import naive
from tests.links import link_of
from tests.support import ANY, assert_raises, integers_outside

ROUGH = "1 loses doubles overtakes 2"
KINDS = [("one_by_one", 1), ("all_so_far", 1), ("all_so_far", 2), ("all_so_far", 3), ("each_by_itself", 1), ("each_by_itself", 2)]
# The number of numbers from which on a kind is kept, as the document tells it.
ENOUGH = {kind: 2 if kind[0] == "one_by_one" else kind[1] + 1 if kind[0] == "all_so_far" else 2 * kind[1] for kind in KINDS}
NO_CHANNELS = [value for value in ANY if not isinstance(value, Channel)]

ONE_SENDER = [
    "{s} empty 0 : take 0 > {s}",
    "{s} full 0 : send 0 {s} > {s}",
    "{s} hear {s} full 0 : clear 0 > {s1}",
    "{s} hear other : - > {s}",
]
TWO_SENDER = [
    "{s} empty 0 : take 0 > {s}",
    "{s} empty 1 full 0 : take 1 > {s}",
    "{s} full 0 : send 0 {s} > {s}",
    "{s} full 1 : send 1 {s1} > {s}",
    "{s} hear {s} empty 1 full 0 : clear 0 > {s1}",
    "{s} hear {s} full 0 1 : move 1 0 > {s1}",
    "{s} hear {s1} full 1 : clear 1 > {Ns}",
    "{s} hear other : - > {s}",
]
SECOND_SENDER = [
    "{Ns} full 0 : send 0 {s} > {Ns}",
    "{Ns} hear {s} full 0 : clear 0 > {s2}",
    "{Ns} hear other : - > {Ns}",
]
# The rows that hear s + j while the boxes below f are full, by the window: what the document's rule gives, by hand.
SHIFTS = {
    1: {1: ["full 0 : clear 0"]},
    2: {1: ["empty 1 full 0 : clear 0", "full 1 : move 1 0"], 2: ["full 1 : clear 0 , clear 1"]},
    3: {
        1: ["empty 1 full 0 : clear 0", "empty 2 full 1 : move 1 0", "full 2 : move 1 0 , move 2 1"],
        2: ["empty 2 full 1 : clear 0 , clear 1", "full 2 : move 2 0 , clear 1"],
        3: ["full 2 : clear 0 , clear 1 , clear 2"],
    },
}


def filled(rows, state, numbers):
    """The rows with the numbers in the place of their words."""
    told = {"s": state, "s1": (state + 1) % numbers, "s2": (state + 2) % numbers, "Ns": numbers + state}
    told["before"] = (state - 1) % numbers
    return [row.format(**told) for row in rows]


def end_of_rows(end, rows, numbers):
    """The end with these rows for each state in turn."""
    return end.read(" ; ".join([row for state in range(numbers) for row in filled(rows, state, numbers)]))


def wanted_one_by_one(numbers):
    receiver = ["{s} hear {s} : put 0 , out 0 , answer {s} > {s1}", "{s} hear other : answer {before} > {s}"]
    return end_of_rows(Sender, ONE_SENDER, numbers), end_of_rows(Receiver, receiver, numbers)


def wanted_all_so_far(window, numbers):
    rows = []
    for s in range(numbers):
        rows += [f"{s} empty 0 : take 0 > {s}"]
        rows += [f"{s} empty {k} full {k - 1} : take {k} > {s}" for k in range(1, window)]
        rows += [f"{s} full {k} : send {k} {(s + k) % numbers} > {s}" for k in range(window)]
        for j, tails in SHIFTS[window].items():
            if j < numbers:
                rows += [f"{s} hear {(s + j) % numbers} {tail} > {(s + j) % numbers}" for tail in tails]
        rows += [f"{s} hear other : - > {s}"]
    receiver = ["{s} hear {s} : put 0 , out 0 , answer {s1} > {s1}", "{s} hear other : answer {s} > {s}"]
    return Sender.read(" ; ".join(rows)), end_of_rows(Receiver, receiver, numbers)


def wanted_each_by_itself(window, numbers):
    receiver = []
    for r in range(numbers):
        one, two = (r + 1) % numbers, (r + 2) % numbers
        if window == 1:
            receiver += [f"{r} hear {r} : put 0 , out 0 , answer {r} > {one}"]
        else:
            receiver += [f"{r} hear {r} empty 1 : put 0 , out 0 , answer {r} > {one}"]
            receiver += [f"{r} hear {r} full 1 : put 0 , out 0 , out 1 , answer {r} > {two}"]
            receiver += [f"{r} hear {one} : put 1 , answer {one} > {r}"] if numbers != 1 else []
        others = [n for n in range(numbers) if n != r and (window == 1 or n != one)]
        receiver += [f"{r} hear {n} : answer {n} > {r}" for n in others]
    if window == 1:
        return end_of_rows(Sender, ONE_SENDER, numbers), Receiver.read(" ; ".join(receiver))
    rows = [row for state in range(numbers) for row in filled(TWO_SENDER, state, numbers)]
    rows += [row for state in range(numbers) for row in filled(SECOND_SENDER, state, numbers)]
    return Sender.read(" ; ".join(rows)), Receiver.read(" ; ".join(receiver))


def pair_of(kind, numbers):
    """The pair of a kind and a window with so many numbers."""
    name, window = kind
    if name == "one_by_one":
        return one_by_one(numbers)
    return all_so_far(window, numbers) if name == "all_so_far" else each_by_itself(window, numbers)


class TestRows(unittest.TestCase):

    def assert_pair(self, got, wanted):
        self.assertIsInstance(got, tuple)
        self.assertEqual([type(end) for end in got], [Sender, Receiver])
        for one, other in zip(got, wanted):
            self.assertEqual(str(one), str(other))
            self.assertEqual(one, other)

    def test_one_by_one(self):
        for numbers in range(1, 7):
            self.assert_pair(one_by_one(numbers=numbers), wanted_one_by_one(numbers))

    def test_all_so_far(self):
        for window in range(1, 4):
            for numbers in range(1, 7):
                self.assert_pair(all_so_far(numbers=numbers, window=window), wanted_all_so_far(window, numbers))

    def test_each_by_itself(self):
        for window in range(1, 3):
            for numbers in range(1, 7):
                self.assert_pair(each_by_itself(numbers=numbers, window=window), wanted_each_by_itself(window, numbers))

    def test_rows_by_hand(self):
        sender, receiver = all_so_far(3, 2)
        self.assertEqual(str(sender).split(" ; ")[:10], [
            "0 empty 0 : take 0 > 0", "0 empty 1 full 0 : take 1 > 0", "0 empty 2 full 1 : take 2 > 0",
            "0 full 0 : send 0 0 > 0", "0 full 1 : send 1 1 > 0", "0 full 2 : send 2 0 > 0",
            "0 hear 1 empty 1 full 0 : clear 0 > 1", "0 hear 1 empty 2 full 1 : move 1 0 > 1",
            "0 hear 1 full 2 : move 1 0 , move 2 1 > 1", "0 hear other : - > 0",
        ])
        self.assertEqual([len(sender), len(receiver)], [20, 4])
        sender, receiver = each_by_itself(2, 3)
        self.assertEqual(str(receiver).split(" ; ")[4:8], [
            "1 hear 1 empty 1 : put 0 , out 0 , answer 1 > 2", "1 hear 1 full 1 : put 0 , out 0 , out 1 , answer 1 > 0",
            "1 hear 2 : put 1 , answer 2 > 1", "1 hear 0 : answer 0 > 1",
        ])
        self.assertEqual(str(sender).split(" ; ")[20:28], [
            "2 hear 2 empty 1 full 0 : clear 0 > 0", "2 hear 2 full 0 1 : move 1 0 > 0", "2 hear 0 full 1 : clear 1 > 5",
            "2 hear other : - > 2", "3 full 0 : send 0 0 > 3", "3 hear 0 full 0 : clear 0 > 2", "3 hear other : - > 3",
            "4 full 0 : send 0 1 > 4",
        ])
        self.assertEqual([str(end) for end in one_by_one(1)], [
            "0 empty 0 : take 0 > 0 ; 0 full 0 : send 0 0 > 0 ; 0 hear 0 full 0 : clear 0 > 0 ; 0 hear other : - > 0",
            "0 hear 0 : put 0 , out 0 , answer 0 > 0 ; 0 hear other : answer 0 > 0",
        ])
        self.assertEqual([len(end) for end in all_so_far(3, 6)], [78, 12])
        self.assertEqual([len(end) for end in each_by_itself(2, 6)], [66, 42])


class TestErrors(unittest.TestCase):

    def test_numbers_and_windows(self):
        for value in integers_outside(1, 6):
            assert_raises(self, BadCount(value), one_by_one, value)
            assert_raises(self, BadCount(value), all_so_far, 1, value)
            assert_raises(self, BadCount(value), each_by_itself, numbers=value, window=2)
        for most, call in ((3, all_so_far), (2, each_by_itself)):
            for value in integers_outside(1, most):
                assert_raises(self, BadCount(value), call, value, 1)
                assert_raises(self, BadCount(value), call, value, 7)
                assert_raises(self, BadCount(value), call, numbers=None, window=value)

    def test_least_numbers(self):
        fine = Channel(1)
        for value in ANY:
            if value not in ("one_by_one", "all_so_far", "each_by_itself"):
                assert_raises(self, BadName(value), least_numbers, value, 1, fine, fine)
                assert_raises(self, BadName(value), least_numbers, limit=0, up=1, down=2, window=0, kind=value)
        for kind, most in (("one_by_one", 1), ("all_so_far", 3), ("each_by_itself", 2)):
            for value in integers_outside(1, most):
                assert_raises(self, BadCount(value), least_numbers, kind, value, fine, fine)
                assert_raises(self, BadCount(value), least_numbers, kind, value, None, None, 0)
            for value in NO_CHANNELS:
                assert_raises(self, BadChannel("down"), least_numbers, kind, 1, value, value, 0)
                assert_raises(self, BadChannel("up"), least_numbers, kind, 1, fine, value, 0)
            for value in integers_outside(1, 20000) + [20001]:
                assert_raises(self, BadCount(value), least_numbers, kind, 1, fine, fine, value)

    def test_limit(self):
        # One number is broken by few pictures; two are kept by 60 with one mark.
        one, two = [Link(*one_by_one(numbers), Channel(1), Channel(1)) for numbers in (1, 2)]
        needed = max(len(judge(two).one), len(judge(two).two))
        self.assertFalse(judge(one, needed - 1))
        self.assertEqual(least_numbers("one_by_one", 1, Channel(1), Channel(1), needed), 2)
        assert_raises(self, TooMany("pictures", needed - 1), least_numbers, "one_by_one", 1, Channel(1), Channel(1), needed - 1)
        assert_raises(self, TooMany("pictures", 1), least_numbers, "one_by_one", 1, Channel(1), Channel(1), limit=1)


class TestLeastNumbers(unittest.TestCase):

    def test_each_kind(self):
        for kind in KINDS:
            name, window = kind
            for down, up in (("1", "1 loses"), (ROUGH, ROUGH), ("1 doubles", "1 loses overtakes 1")):
                got = least_numbers(name, window, Channel.read(down), Channel.read(up))
                self.assertEqual(got, ENOUGH[kind], (kind, down, up))
                self.assertEqual(type(got), int)
        self.assertEqual(least_numbers(up=Channel(2, Loses()), down=Channel(2), window=2, kind="all_so_far"), 3)

    def test_none(self):
        for name, window in KINDS[:2] + KINDS[4:5]:
            for down in ("2 overtakes 1", "3 overtakes 2"):
                self.assertIsNone(least_numbers(name, window, Channel.read(down), Channel(1), 20000))

    def test_it_is_the_least_one_that_is_kept(self):
        for down, up in (("1", "1"), ("1 loses", "1"), ("2", "1"), ("1 doubles", "1"), ("1", "2 overtakes 1"), ("2 overtakes 1", "1")):
            for kind in KINDS[:3] + KINDS[4:5]:
                kept = [numbers for numbers in range(1, 7) if judge(link_of(pair_of(kind, numbers), down, up))]
                got = least_numbers(*kind, Channel.read(down), Channel.read(up))
                self.assertEqual(got, min(kept, default=None), (kind, down, up))


class TestFacts(unittest.TestCase):

    def test_kept_with_enough_numbers(self):
        for kind in KINDS:
            for numbers in range(ENOUGH[kind], 7):
                self.assertTrue(judge(link_of(pair_of(kind, numbers), ROUGH, ROUGH)), (kind, numbers))
        for kind in KINDS[:3] + KINDS[4:5]:
            for down, up in (("2 loses doubles", "2 loses doubles"), ("2 loses", "1 doubles"), ("1", "2 loses")):
                self.assertTrue(judge(link_of(pair_of(kind, ENOUGH[kind]), down, up)), (kind, down, up))

    def test_broken_with_fewer_if_the_channel_up_loses(self):
        for kind in KINDS:
            for numbers in range(1, ENOUGH[kind]):
                for down, up in (("1", "1 loses"), ("2", "1 loses"), ("1", "2 loses")):
                    self.assertFalse(judge(link_of(pair_of(kind, numbers), down, up)), (kind, numbers, down, up))

    def test_no_number_is_enough_if_letters_overtake(self):
        for kind in KINDS:
            for numbers in range(1, 7) if kind[1] == 1 else (ENOUGH[kind], 6 - kind[1]):
                self.assertFalse(judge(link_of(pair_of(kind, numbers), "2 overtakes 1", "1"), 20000), (kind, numbers))

    def test_answers_that_overtake_can_stop_a_pair_without_breaking_it(self):
        for kind, numbers in ((("one_by_one", 1), 3), (("all_so_far", 1), 3), (("all_so_far", 2), 5)):
            pair = pair_of(kind, numbers)
            self.assertTrue(judge(link_of(pair, "1 loses", "2 overtakes 1")), kind)
            self.assertFalse(goes_on(link_of(pair, "1 loses", "2 overtakes 1")), kind)
            self.assertTrue(goes_on(link_of(pair, "1 loses", "2 loses doubles")), kind)

    def test_answers_that_overtake_can_break_the_least_numbers(self):
        # A late answer passes for a new one, and clears a message that was never sent.
        link = link_of(one_by_one(2), "1", "2 overtakes 1")
        told = judge(link)
        self.assertFalse(told)
        play = naive.Play(link)
        for step in told.steps:
            self.assertFalse(play.breaks())
            play.do(step)
        self.assertTrue(play.breaks())
