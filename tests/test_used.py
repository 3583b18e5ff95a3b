"""Tests of idle rows: what is used, first uses, links without idle rows, and the looker at right and wrong papers."""

import itertools
import unittest

from markedpair.channels import Channel
from markedpair.ends import Receiver, Sender
from markedpair.errors import BadCount, BadLink, BadStep, NoRow, TooMany
from markedpair.families import all_so_far, each_by_itself, one_by_one
from markedpair.going import goes_on
from markedpair.judged import Verdict, judge
from markedpair.links import Link
from markedpair.logs import next_entries
from markedpair.look_used import shows_idle
from markedpair.pictures import reached
from markedpair.runs import Run
from markedpair.steps import Act, Hear, Lose
from markedpair.used import Idle, first_use, idle_rows, without_idle
from tests import naive
from tests.links import AGAIN, DEAF, ONCE, SWAPPING, chance_link, link_of
from tests.support import ANY, assert_raises, dice_of, integers_outside

NO_LINKS = [value for value in ANY if not isinstance(value, Link)]
# Rows 2 of the sender and 1 of the receiver are idle.
PLAIN = Link(
    Sender.read("0 empty 0 : take 0 > 1 ; 1 : send 0 0 > 1 ; 2 : clear 0 > 0"),
    Receiver.read("0 hear 0 : put 0 , out 0 > 0 ; 0 hear 1 : - > 0"), Channel(1), Channel(1),
)
TABLE = ("0 0 0 - - 0 - -", "0 0 1 . - 0 - -", "0 0 1 . 0. 0 - -")
ROWS = (("sender", 2), ("receiver", 1))
# The row that hears 0 hears it, but what its deed needs is never there.
RIVALS = Link(
    Sender.read("0 : take 0 , send 0 0 > 0 ; 0 : take 0 , send 0 1 > 0"),
    Receiver.read("0 hear 0 : clear 1 > 0 ; 0 hear other : put 0 , out 0 > 0 ; 1 hear 2 : - > 0 ; 1 hear other : - > 1 ; "
                  "2 hear 3 : - > 0 ; 0 : clear 2 > 0 ; 1 : - > 0 ; 0 hear 1 full 0 : - > 0"),
    Channel(2), Channel(1),
)


def row_of(text):
    """The row that a step with this text does, None for a loss."""
    side, at, *_ = text.split(" ")
    return None if side == "lose" else (side, int(at))


def naive_uses(link, most=100000):
    """The pictures without marks, and for each row that is used how many steps a shortest run has that uses it."""
    levels, _ = naive.levels(link, 0, most)
    uses = {}
    for steps, level in enumerate(levels):
        for picture in level:
            for text, _, _, _ in naive.moves(link, picture):
                uses.setdefault(row_of(text), steps + 1)
    return tuple(sorted(picture for level in levels for picture in level)), uses


def rows_of(link):
    """The pairs of all rows."""
    return [(side, at) for side, end in (("sender", link.sender), ("receiver", link.receiver)) for at in range(len(end))]


def small_links(dice, many, most=600):
    """So many links by chance with at most so many pictures without marks."""
    found = []
    while len(found) < many:
        link = chance_link(dice)
        levels, _ = naive.levels(link, 0, most)
        if sum(len(level) for level in levels) <= most:
            found.append(link)
    return found


class TestPaper(unittest.TestCase):

    def test_any_values_are_kept(self):
        for value in ANY:
            paper = Idle(value, [value])
            self.assertTrue(paper.table is value and paper.rows[0] is value and paper)
            self.assertTrue(paper == Idle(rows=[value], table=value))
        for one, other in ((Idle(1, 2), Idle(1, 1)), (Idle(1, 2), Idle(2, 2)), (Idle((), ()), ((), ())), (Idle((), ()), Idle((), []))):
            self.assertFalse(one == other or other == one)
        self.assertNotIsInstance(Idle((), ()), Verdict)


class TestErrors(unittest.TestCase):

    def test_no_link_comes_ahead_of_all_others(self):
        for value in NO_LINKS:
            assert_raises(self, BadLink("link"), idle_rows, value, 0)
            assert_raises(self, BadLink("link"), first_use, value, "none", None, 0)
            assert_raises(self, BadLink("link"), first_use, limit=0, at=-1, side=1, link=value)
            assert_raises(self, BadLink("link"), without_idle, limit=0, link=value)
            assert_raises(self, BadLink("link"), shows_idle, value, Idle(TABLE, ROWS))

    def test_sides_and_rows(self):
        for value in ANY:
            if value not in ("sender", "receiver"):
                assert_raises(self, BadStep("side"), first_use, PLAIN, value, 9, 0)
        for side, last in (("sender", 2), ("receiver", 1)):
            for value in integers_outside(0, last):
                assert_raises(self, NoRow(value), first_use, PLAIN, side, value, 0)
        assert_raises(self, NoRow(0), first_use, link_of((Sender(), Receiver())), "receiver", 0)

    def test_limit(self):
        for value in integers_outside(1, 20000) + [20001]:
            for call in (idle_rows, without_idle):
                assert_raises(self, BadCount(value), call, PLAIN, value)
            assert_raises(self, BadCount(value), first_use, PLAIN, "sender", 0, value)
        for limit in (1, 2):
            assert_raises(self, TooMany("pictures", limit), idle_rows, PLAIN, limit)
            assert_raises(self, TooMany("pictures", limit), without_idle, PLAIN, limit=limit)
            # Also if a shorter search would find the row.
            assert_raises(self, TooMany("pictures", limit), first_use, PLAIN, "sender", 0, limit)
        self.assertEqual(len(first_use(PLAIN, "sender", 0, 3)), 1)
        self.assertEqual(idle_rows(limit=3, link=PLAIN), Idle(TABLE, ROWS))
        self.assertEqual(len(without_idle(PLAIN, 3).sender), 2)


class TestIdleRows(unittest.TestCase):

    def test_by_hand(self):
        found = idle_rows(PLAIN)
        self.assertIsInstance(found, Idle)
        self.assertEqual([found.table, found.rows], [TABLE, ROWS])
        self.assertEqual(idle_rows(link_of((Sender(), Receiver()))).rows, ())
        self.assertEqual(idle_rows(link_of(DEAF)).rows, ())
        self.assertEqual(idle_rows(RIVALS).rows, tuple([("receiver", at) for at in (0, 2, 3, 4, 5, 6, 7)]))
        # Nothing is ever answered.
        self.assertEqual(idle_rows(Link(ONCE[0], Receiver(), Channel(1), Channel(1))).rows, (("sender", 1),))

    def test_families(self):
        for pair in (one_by_one(2), all_so_far(2, 3)):
            self.assertEqual(idle_rows(link_of(pair, "1 loses", "1 loses")).rows, ())
        # Number 1 is never sent while 0 is wanted.
        self.assertIn(("receiver", 1), idle_rows(link_of(each_by_itself(1, 3))).rows)

    def test_as_the_naive_program(self):
        for link in small_links(dice_of(61), 40):
            table, uses = naive_uses(link)
            found = idle_rows(link)
            self.assertEqual(found, Idle(table, tuple([row for row in rows_of(link) if row not in uses])))
            self.assertEqual(found.table, reached(link, 0))
            self.assertIs(shows_idle(link, found), True)


class TestFirstUse(unittest.TestCase):

    def test_by_hand(self):
        self.assertEqual(first_use(PLAIN, "receiver", 0), (Act("sender", 0), Act("sender", 1), Hear("receiver", 0)))
        self.assertEqual(first_use(at=1, side="sender", link=PLAIN), (Act("sender", 0), Act("sender", 1)))
        self.assertEqual([first_use(PLAIN, side, at) for side, at in ROWS], [None, None])

    def test_shortest_runs(self):
        for link in small_links(dice_of(63), 30):
            _, uses = naive_uses(link)
            for side, at in rows_of(link):
                steps = first_use(link, side, at)
                if (side, at) not in uses:
                    self.assertIsNone(steps)
                    continue
                self.assertIsInstance(steps, tuple)
                self.assertEqual(len(steps), uses[side, at])
                self.assertEqual(row_of(str(steps[-1])), (side, at))
                self.assertEqual(Run.of(link, steps).done, steps)
                self.assertEqual(first_use(link, side, at), steps)


class TestWithoutIdle(unittest.TestCase):

    def test_by_hand(self):
        less = without_idle(link=PLAIN)
        self.assertIsInstance(less, Link)
        self.assertEqual(str(less.sender), "0 empty 0 : take 0 > 1 ; 1 : send 0 0 > 1")
        self.assertEqual(str(less.receiver), "0 hear 0 : put 0 , out 0 > 0")
        self.assertEqual([less.down, less.up], [PLAIN.down, PLAIN.up])
        self.assertEqual([len(PLAIN.sender), len(PLAIN.receiver)], [3, 2])
        link = link_of(AGAIN)
        self.assertEqual(without_idle(link), link)

    def test_rows_beside_other_stay(self):
        # Those that hear a number stay beside `other`, be it idle or not; what hears nothing, or `other` itself, goes.
        self.assertEqual(str(without_idle(RIVALS).receiver),
                         "0 hear 0 : clear 1 > 0 ; 0 hear other : put 0 , out 0 > 0 ; 1 hear 2 : - > 0 ; 0 hear 1 full 0 : - > 0")
        self.assertEqual(RIVALS.receiver.boxes, 3)
        self.assertEqual(without_idle(RIVALS).receiver.boxes, 2)
        # Without the row that hears 0 its letter would be heard by `other`.
        bare = Link(RIVALS.sender, RIVALS.receiver.without_row(0), RIVALS.down, RIVALS.up)
        self.assertNotEqual(next_entries(bare, ["sent 0"]), next_entries(RIVALS, ["sent 0"]))
        for log in ([], ["sent 0"], ["sent 1"], ["sent 1", "heard 1"]):
            self.assertEqual(next_entries(without_idle(RIVALS), log), next_entries(RIVALS, log))

    def test_only_rows_of_the_same_end_and_state_count(self):
        rows = "0 : take 0 > 0 ; 1 hear 1 : - > 0 ; 2 hear other : - > 0 ; 0 hear 2 : - > 0 ; 0 hear other : - > 0"
        link = Link(Sender.read(rows), Receiver.read("0 hear 1 : - > 0"), Channel(1), Channel(1))
        self.assertEqual(str(without_idle(link).sender), "0 : take 0 > 0 ; 0 hear 2 : - > 0")
        self.assertEqual(str(without_idle(link).receiver), "-")

    def test_the_same_runs(self):
        less_rows = 0
        for link in small_links(dice_of(65), 30):
            less = without_idle(link)
            less_rows += len(less.sender) < len(link.sender)
            for end, other in ((link.sender, less.sender), (link.receiver, less.receiver)):
                self.assertEqual([row for row in end if row in other], list(other))
            one, two = judge(link, 20000), judge(less, 20000)
            self.assertIs(bool(one), bool(two))
            if not one:
                self.assertEqual(len(one.steps), len(two.steps))
            self.assertIs(bool(goes_on(link, 20000)), bool(goes_on(less, 20000)))
            self.assertEqual(len(reached(link, 0)), len(reached(less, 0)))
            self.assertEqual([next_entries(link, log) for log in ([], ["sent 0"], ["sent 0", "heard 0"])],
                             [next_entries(less, log) for log in ([], ["sent 0"], ["sent 0", "heard 0"])])
        self.assertGreater(less_rows, 3)


class TestShowsIdle(unittest.TestCase):

    def test_any_values(self):
        for value in ANY:
            self.assertIs(shows_idle(PLAIN, value), False)
            self.assertIs(shows_idle(link=PLAIN, value=Idle(value, ROWS)), False)
            self.assertIs(shows_idle(PLAIN, Idle(TABLE, value)), False)
            self.assertIs(shows_idle(PLAIN, Idle(TABLE, (value,) + ROWS)), False)
            self.assertIs(shows_idle(PLAIN, Idle(TABLE, (ROWS[0], ("receiver", value)))), type(value) is int and value == 1)
            self.assertIs(shows_idle(PLAIN, Idle(TABLE, (ROWS[0], (value, 1)))), value == "receiver")
            self.assertIs(shows_idle(PLAIN, Idle(TABLE + (value,), ROWS)), False)
        self.assertIs(shows_idle(PLAIN, Idle(TABLE, ROWS)), True)

    def test_wrong_rows(self):
        for rows in ((), ROWS[:1], ROWS[1:], ROWS[::-1], ROWS + ROWS[1:], (("sender", 1),) + ROWS, list(ROWS), (list(ROWS[0]), ROWS[1]),
                     (("sender", 2), ("receiver", True)), (("sender", 2, 0), ROWS[1]), (("sender",), ROWS[1])):
            self.assertIs(shows_idle(PLAIN, Idle(TABLE, rows)), False, rows)

    def test_wrong_tables(self):
        for at in range(3):
            self.assertIs(shows_idle(PLAIN, Idle(TABLE[:at] + TABLE[at + 1:], ROWS)), False)
            self.assertIs(shows_idle(PLAIN, Idle(TABLE[:at] + TABLE[at:at + 1] + TABLE[at:], ROWS)), False)
        for order in itertools.permutations(TABLE):
            self.assertIs(shows_idle(PLAIN, Idle(order, ROWS)), order == TABLE)
        self.assertIs(shows_idle(PLAIN, Idle(list(TABLE), ROWS)), False)
        self.assertIs(shows_idle(PLAIN, Idle((), ROWS)), False)
        for marks in (1, 2):
            self.assertIs(shows_idle(PLAIN, Idle(reached(PLAIN, marks), ROWS)), False)
            self.assertIs(shows_idle(PLAIN, Idle(tuple(sorted(TABLE + reached(PLAIN, marks))), ROWS)), False)

    def test_more_pictures_than_are_reached(self):
        # At state 2 the sender's third row can be done; the closed table with it shows one idle row only.
        more = tuple(sorted(TABLE + ("0 0 2 . - 0 - -", "0 0 0 - 0. 0 - -", "0 0 2 . 0. 0 - -", "0 0 2 - - 0 - -")))
        self.assertIs(shows_idle(PLAIN, Idle(more, ROWS)), False)
        self.assertIs(shows_idle(PLAIN, Idle(more, ROWS[1:])), True)
        still = tuple(sorted(TABLE + ("0 0 7 . - 9 . 3",)))
        self.assertIs(shows_idle(PLAIN, Idle(still, ROWS)), True)
        self.assertIs(shows_idle(PLAIN, Idle(tuple(sorted(TABLE + ("0 0 2 . - 0 - -",))), ROWS[1:])), True)
        self.assertIs(shows_idle(PLAIN, Idle(tuple(sorted(TABLE + ("0 0 2 . 0. 0 - -",))), ROWS[1:])), False)

    def test_papers_of_other_links(self):
        links = small_links(dice_of(67), 25, 200) + [link_of(SWAPPING), link_of(ONCE), link_of(AGAIN)]
        for link in links:
            found = idle_rows(link)
            for other in links:
                self.assertIs(shows_idle(other, found), naive_shows(other, found))

    def test_large_tables(self):
        # No bound is told for the table of an Idle.
        states = [f"0 0 {one} {box} {letters} {two} {answers}" for one in range(24) for box in "-." for letters in ("-", "0.", "1.")
                  for two in range(24) for answers in ("- -", "- 0", ". 1", ". -", ". 0", "- 1", "- 2")]
        link = link_of((Sender(), Receiver()))
        self.assertGreater(len(states), 20000)
        self.assertIs(shows_idle(link, Idle(tuple(sorted(states)), ())), True)
        self.assertIs(shows_idle(link, Idle(tuple(sorted(states)), (("sender", 0),))), False)


def naive_shows(link, paper):
    """Whether an Idle with a tuple of texts shows what it says."""
    sizes = [naive.boxes_of(end) for end in (link.sender, link.receiver)]
    for picture in paper.table:
        _, _, state = naive.read(picture)
        if [len(state[side + " boxes"]) for side in naive.SIDES] != sizes:
            return False
        if len(state["down"]) > link.down.capacity or len(state["up"]) > link.up.capacity:
            return False
    changes = [change for picture in paper.table for change in naive.moves(link, picture)]
    used = {row_of(text) for text, _, _, _ in changes}
    if not {then for _, _, then, _ in changes} <= set(paper.table):
        return False
    return list(paper.rows) == [row for row in rows_of(link) if row not in used]


class TestLosses(unittest.TestCase):

    def test_a_loss_does_no_row(self):
        link = link_of(DEAF, "1 loses")
        self.assertEqual(idle_rows(link).rows, ())
        self.assertIn(Lose("down", 0), list(Run.of(link, [Act("sender", 0), Act("sender", 1)]).open_steps()))
