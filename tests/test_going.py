"""Tests of going on: ranks, what is stuck, the limit, and the looker at right and wrong papers."""

import itertools
import unittest

from markedpair.channels import Channel, channels_of
from markedpair.ends import Receiver, Sender
from markedpair.errors import BadCount, BadLink, TooMany
from markedpair.going import Goes, Stuck, goes_on
from markedpair.judged import Verdict, judge
from markedpair.links import Link
from markedpair.look_going import shows_going
from markedpair.pictures import is_picture, start
from markedpair.runs import Run
from markedpair.steps import Act, Hear, Lose, Step
from tests import naive
from tests.links import AGAIN, DEAF, ONCE, SWAPPING, TWICE, chance_link, link_of, one_by_one, two_at_a_time
from tests.support import ANY, assert_raises, dice_of, integers_outside

NO_LINKS = [value for value in ANY if not isinstance(value, Link)]
CALM = link_of(ONCE)
LOSSY = link_of(ONCE, "1 loses", "1 loses")
GOING = link_of(one_by_one(2), "1 loses", "1 loses")
BEGINNING = "1 0 0 - - 0 - -"
RANKS = (("1 0 0 - - 0 - -", 1), ("1 0 1 . - 0 - 0", 2), ("1 0 1 . 0. 0 - -", 3), ("1 1 1 a 0a 0 - -", 1))
# Its sender takes a message, and may put it away for ever.
CLEARING = Link(Sender.read("0 empty 0 : take 0 > 0 ; 0 : send 0 0 , clear 0 > 0 ; 0 full 0 : - > 1"),
                Receiver.read("0 hear 0 : put 0 , out 0 > 0"), Channel(1), Channel(1))


def is_calm(text):
    """Whether the step with this text has no fault."""
    step = Step.read(text)
    return isinstance(step, Act) or isinstance(step, Hear) and step.place == 0 and not step.stays


def ends(picture, change):
    """Whether a change of a waiting picture ends its wait."""
    _, sign, then, breaks = change
    if picture.split(" ")[1] == "0":
        return sign is not None
    return breaks or then is None or then.split(" ")[1] == "2"


def naive_going(link, most):
    """The pairs of Goes; or else how many steps a shortest run to a stuck picture has; None for too many pictures."""
    levels, _ = naive.levels(link, 1, most)
    waiting = [[picture for picture in level if picture.split(" ")[1] != "2"] for level in levels]
    if sum(len(level) for level in levels) > most:
        return None
    calm = {}
    for picture in [picture for level in waiting for picture in level]:
        calm[picture] = [change for change in naive.moves(link, picture) if is_calm(change[0])]
    ranks, rank = {picture: 1 for picture in calm if any(ends(picture, change) for change in calm[picture])}, 1
    while rank in ranks.values():
        rank += 1
        new = [picture for picture in calm if picture not in ranks and any(one[2] in ranks for one in calm[picture])]
        ranks.update({picture: rank for picture in new})
    for steps, level in enumerate(waiting):
        if any(picture not in ranks for picture in level):
            return steps
    return tuple(sorted(ranks.items()))


def waiting_of(link):
    """How many waiting pictures a link has."""
    levels, _ = naive.levels(link, 1)
    return sum(picture.split(" ")[1] != "2" for level in levels for picture in level)


class TestPapers(unittest.TestCase):

    def test_any_values_are_kept(self):
        for value in ANY:
            self.assertIs(Goes(ranks=value).ranks, value)
            stuck = Stuck(value, [value], (value,))
            self.assertTrue(stuck.steps is value and stuck.mark[0] is value and stuck.lot[0] is value)
            self.assertTrue(Goes(value) == Goes(value) and stuck == Stuck(lot=(value,), mark=[value], steps=value))
            self.assertIs(bool(Goes(value)), True)
            self.assertIs(bool(stuck), False)

    def test_equal_papers(self):
        for one, other in ((Goes(1), Goes(2)), (Goes(()), Goes([])), (Stuck(1, 2, 3), Stuck(0, 2, 3)), (Stuck(1, 2, 3), Goes(1)),
                           (Stuck(1, 2, 3), Stuck(1, 0, 3)), (Stuck(1, 2, 3), Stuck(1, 2, 0)), (Goes(1), 1)):
            self.assertFalse(one == other or other == one)
        self.assertTrue(issubclass(Goes, Verdict) and issubclass(Stuck, Verdict))


class TestGoesOn(unittest.TestCase):

    def test_errors(self):
        for value in NO_LINKS:
            assert_raises(self, BadLink("link"), goes_on, value, 0)
            assert_raises(self, BadLink("link"), goes_on, limit=0, link=value)
        for value in integers_outside(1, 20000) + [20001]:
            assert_raises(self, BadCount(value), goes_on, CALM, value)
            assert_raises(self, BadCount(value), goes_on, limit=value, link=LOSSY)

    def test_ranks(self):
        self.assertEqual(goes_on(CALM), Goes(RANKS))
        ranks = dict(goes_on(GOING).ranks)
        self.assertEqual([ranks[picture] for picture in (BEGINNING, "1 1 0 a - 0 - -", "1 1 0 a 0a 0 - -")], [1, 2, 1])

    def test_known_links(self):
        for link, right in (
            (CALM, True), (GOING, True), (link_of(one_by_one(2), "2 loses doubles", "2 loses doubles"), True),
            (link_of(one_by_one(2), "1", "2 overtakes 1"), None), (LOSSY, False), (link_of(DEAF), False), (CLEARING, False),
            (link_of(two_at_a_time(3), "1 loses", "1 loses"), True), (link_of(ONCE, "1 loses", "1"), False),
            (link_of((Sender(), Receiver())), False), (link_of(SWAPPING), None),
        ):
            found = goes_on(link)
            if right is not None:
                self.assertIs(bool(found), right)
            self.assertIs(shows_going(link, found), True)

    def test_stuck_at_stage_0(self):
        link = link_of((Sender(), Receiver()))
        self.assertEqual(goes_on(link), Stuck((), None, (BEGINNING,)))
        found = goes_on(LOSSY)
        self.assertEqual([found.mark, found.lot, found.steps], [None, ("1 0 1 . - 0 - -",), (Act("sender", 0), Lose("down", 0))]
                         if found.mark is None else [0, ("1 1 1 a - 0 - -",), (Act("sender", 0), Lose("down", 0))])

    def test_stuck_at_stage_1(self):
        # At stage 0 the sender can always take.
        link = Link(Sender.read("0 : take 0 > 0"), Receiver(), Channel(1), Channel(1))
        self.assertEqual(goes_on(link), Stuck((Act("sender", 0),), 0, ("1 1 0 . - 0 - -", "1 1 0 a - 0 - -")))
        link = Link(Sender.read("0 : take 0 > 1 ; 1 : take 0 > 2 ; 2 : take 0 > 2 ; 2 : send 0 0 > 2"),
                    Receiver.read("0 hear 0 : put 0 , out 0 > 0"), Channel(1), Channel(1))
        found = goes_on(link)
        self.assertEqual(found.mark, 0)
        self.assertIs(shows_going(link, found), True)

    def test_the_mark_is_the_place_of_the_marked_message(self):
        # The first message is handed out; from the second one on they are lost.
        link = Link(Sender.read("0 : take 0 , send 0 0 > 1 ; 1 : take 0 > 1"), Receiver.read("0 hear 0 : put 0 , out 0 > 0"),
                    Channel(1), Channel(1))
        found = goes_on(link)
        self.assertEqual([found.steps, found.mark, found.lot],
                         [(Act("sender", 0), Act("sender", 1)), 1,
                          ("1 1 1 . - 0 - -", "1 1 1 . 0. 0 - -", "1 1 1 a - 0 - -", "1 1 1 a 0. 0 - -")])

    def test_as_the_naive_program(self):
        dice, goes, stuck = dice_of(41), 0, 0
        while goes < 12 or stuck < 25:
            link = chance_link(dice, 1)
            wanted = naive_going(link, 300)
            if isinstance(wanted, tuple):
                goes += 1
                self.assertEqual(goes_on(link), Goes(wanted))
            elif wanted is not None:
                stuck += 1
                self.assert_stuck(link, goes_on(link), wanted)

    def assert_stuck(self, link, found, many):
        """The paper tells a run of so many steps, and just the pictures to which steps without faults lead."""
        self.assertIsInstance(found, Stuck)
        run = Run.of(link, found.steps)
        self.assertEqual(len(found.steps), many)
        self.assertTrue(found.mark is None or found.mark in range(run.took))
        lot = [run.seen(run.took if found.mark is None else found.mark)]
        for picture in lot:
            changes = [change for change in naive.moves(link, picture) if is_calm(change[0])]
            self.assertFalse(any(ends(picture, change) for change in changes))
            lot += [then for then in dict.fromkeys(change[2] for change in changes) if then not in lot]
        self.assertEqual(found.lot, tuple(sorted(lot)))
        self.assertEqual({picture.split(" ")[1] for picture in lot}, {"0" if found.mark is None else "1"})

    def test_limit_counts_waiting_pictures(self):
        dice = dice_of(43)
        for link in [CALM, LOSSY, GOING, link_of(TWICE), CLEARING] + [chance_link(dice, 1) for _ in range(10)]:
            many = waiting_of(link)
            found = goes_on(link, many)
            self.assertEqual(found, goes_on(link))
            if many > 1:
                assert_raises(self, TooMany("pictures", many - 1), goes_on, link, many - 1)
                assert_raises(self, TooMany("pictures", 1), goes_on, link=link, limit=1)

    def test_fewer_faults_the_same_ranks(self):
        ranks = dict(goes_on(link_of(one_by_one(2), "1 loses doubles", "1 loses doubles")).ranks)
        for down in channels_of(1):
            for up in (Channel(1), Channel.read("1 loses"), Channel.read("1 doubles")):
                link = link_of(one_by_one(2)).with_channels(down, up)
                found = goes_on(link)
                if down.within(Channel.read("1 loses doubles")):
                    self.assertLessEqual(set(found.ranks), set(ranks.items()))

    def test_a_breaking_step_ends_the_wait(self):
        link = link_of(TWICE)
        self.assertFalse(judge(link))
        found = goes_on(link)
        self.assertIs(shows_going(link, found), True)
        clearing = Link(Sender.read("0 empty 0 : take 0 , send 0 0 , clear 0 > 0"), link.receiver, Channel(1), Channel(1))
        self.assertEqual(goes_on(clearing).ranks,
                         (("1 0 0 - - 0 -- -", 1), ("1 0 0 - 0. 0 -- -", 2), ("1 1 0 - 0a 0 -- -", 1)))
        self.assertIs(shows_going(clearing, goes_on(clearing)), True)


class TestShowsGoing(unittest.TestCase):

    def test_errors_and_any_values(self):
        for value in NO_LINKS:
            assert_raises(self, BadLink("link"), shows_going, value, Goes(RANKS))
            assert_raises(self, BadLink("link"), shows_going, value=None, link=value)
        for value in ANY:
            for wrong in (value, Goes(value), Goes((value,)), Goes(RANKS + (value,)), Goes(((value, 1),) + RANKS),
                          Goes((RANKS[0], (RANKS[1][0], value, 1)) + RANKS[2:])):
                self.assertIs(shows_going(CALM, wrong), False)
            if not (type(value) is int and value >= 3):
                self.assertIs(shows_going(CALM, Goes(RANKS[:2] + ((RANKS[2][0], value),) + RANKS[3:])), False)
            found = goes_on(LOSSY)
            for wrong in (Stuck(value, found.mark, found.lot) if value != found.steps else None, Stuck(found.steps, found.mark, value),
                          Stuck(found.steps + (value,), found.mark, found.lot), Stuck((value,), None, (BEGINNING,)),
                          Stuck(found.steps, found.mark, found.lot + (value,))):
                self.assertIs(shows_going(LOSSY, wrong), False)

    def test_goes_of_pairs(self):
        self.assertIs(shows_going(CALM, Goes(RANKS)), True)
        for wrong in (RANKS, Goes(list(RANKS)), Goes(RANKS[::-1]), Goes(RANKS[:1] + RANKS), Goes(()), Goes(RANKS[1:]),
                      Goes(tuple(list(pair) for pair in RANKS)), Goes(RANKS[:1]), Goes(RANKS[:2] + RANKS[3:])):
            self.assertIs(shows_going(CALM, wrong), False)

    def test_goes_with_other_ranks(self):
        for ranks, right in (((1, 2, 3, 1), True), ((6, 7, 9, 5), True), ((1, 2, 3, 10 ** 39), True), ((1, 1, 2, 1), False),
                             ((2, 2, 3, 1), False), ((9, 1, 7, 5), False), ((1, 2, 2, 1), False), ((1, 2, 3, 0), False), ((0, 2, 3, 1), False),
                             ((1, 2, 3, True), False), ((1, 2, 3, "1"), False), ((3, 4, 4, 1), False), ((3, 4, 5, 1), True)):
            paper = Goes(tuple((picture, rank) for (picture, _), rank in zip(RANKS, ranks)))
            self.assertIs(self.naive_goes(CALM, paper.ranks), right, ranks)
            self.assertIs(shows_going(CALM, paper), right, ranks)

    def naive_goes(self, link, ranks):
        """Whether ranks show that a link goes on, asked slowly."""
        table = dict(ranks)
        if not all(type(rank) is int and rank >= 1 for rank in table.values()) or start(link, 1) not in table:
            return False
        for picture in table:
            way = False
            for change in naive.moves(link, picture):
                text, _, then, breaks = change
                out = breaks or then is None or then.split(" ")[1] == "2"
                if not out and then not in table:
                    return False
                if is_calm(text) and (ends(picture, change) or table[then] < table[picture]):
                    way = True
            if not way:
                return False
        return True

    def test_goes_with_changed_pairs(self):
        dice = dice_of(45)
        for link in (GOING, link_of(two_at_a_time(3), "1 loses", "1"), link_of(one_by_one(2), "1 doubles", "1 doubles overtakes 1")):
            ranks = goes_on(link).ranks
            self.assertIs(shows_going(link, Goes(ranks)), True)
            for _ in range(25):
                changed = list(ranks)
                at = dice.randrange(len(changed))
                picture, rank = changed[at]
                if dice.randrange(2):
                    del changed[at]
                else:
                    changed[at] = (picture, max(0, rank + dice.choice([-2, -1, 1, 2, 9])))
                self.assertIs(shows_going(link, Goes(tuple(changed))), self.naive_goes(link, changed))

    def test_goes_with_more_pictures(self):
        # A picture that no run reaches can stand there if it has a way, too.
        more = tuple(sorted(RANKS + (("1 1 1 a 0a 7 - -", 1),)))
        self.assertIs(shows_going(CALM, Goes(more)), False)
        more = tuple(sorted(RANKS + (("1 0 1 . 0. 0 . -", 5), ("1 1 1 . 0a 0 . -", 1))))
        self.assertTrue(all(is_picture(CALM, picture) for picture, _ in more))
        self.assertIs(shows_going(CALM, Goes(more)), True)
        for extra in ("1 2 1 a - 0 - 0", "0 0 0 - - 0 - -", "2 0 0 - - 0 - -", "1 0 0 a - 0 - -", "x"):
            self.assertIs(shows_going(CALM, Goes(tuple(sorted(RANKS + ((extra, 1),))))), False)

    def test_goes_looks_at_steps_with_faults(self):
        # The ranks of the calm link lead out of their table where a letter can be lost.
        self.assertIs(shows_going(LOSSY, Goes(RANKS)), False)
        self.assertIs(shows_going(CALM.with_channels(up=Channel.read("1 loses")), Goes(RANKS)), False)

    def test_goes_wants_a_way_without_faults(self):
        link = Link(Sender.read("0 empty 0 : take 0 , send 0 0 > 1 ; 0 hear other : - > 0"), Receiver.read("0 : answer 0 > 0"),
                    Channel.read("1 loses"), Channel.read("1 loses"))
        self.assertFalse(goes_on(link))

    def test_stuck(self):
        link = CLEARING
        found = goes_on(link)
        self.assertEqual([len(found.steps), found.mark is None], [2, found.lot == ("1 0 1 . - 0 - -",)])
        self.assertIs(shows_going(value=found, link=link), True)
        take, stop, send, hear = Act("sender", 0), Act("sender", 2), Act("sender", 1), Hear("receiver", 0)
        blank, marked = ("1 0 1 . - 0 - -",), ("1 1 1 a - 0 - -",)
        for steps, mark, lot, right in (
            ((take, stop), None, blank, True), ((take, stop), 0, marked, True), ((take, stop), 0, blank, False),
            ((take, stop), None, marked, False), ((take, stop), 1, marked, False), ((take, stop), -1, marked, False),
            ((take, stop), False, marked, False), ((take, stop), True, marked, False), ((take,), None, ("1 0 0 . - 0 - -",), False),
            ((take, send, take, stop), None, blank, False), ((take, send, hear, take, stop), None, blank, True),
            ((take, send, hear, take, stop), 1, marked, True), ((take, send, hear, take, stop), 0, marked, False),
            ((take, send, hear, take, stop), 0, blank, False), ((take, send, hear, take, stop), 2, blank, False),
            ((take, stop, stop), None, blank, False), ((stop,), None, blank, False), ((), None, (), False),
            ((take, stop), None, (), False), ((take, stop), None, ("1 0 1 - - 0 - -",) + blank, True),
            ((take, stop), None, blank + ("1 0 1 . 0. 0 - -",), True), ((take, stop), None, blank + blank, False),
            ((take, stop), None, list(blank), False), ((take, stop), None, ("1 0 1 . 0. 0 - -",) + blank, False),
            ((take, stop), None, blank + marked, False), ([take, stop], None, blank, False), ((take, stop), None, blank + ("x",), False),
            ((take, stop), None, ("1 0 0 - - 0 - -",) + blank, False), ((take, stop), None, blank + ("2 0 1 . - 0 - -",), False),
            ((take, stop), 0, ("1 1 1 . 0. 0 - -",) + marked, False), ((take, stop), 0, ("1 1 1 . 0a 0 - -",) + marked, False),
            ((take, stop), 0, ("1 1 1 . - 0 - -", "1 1 1 . 0. 0 - -") + marked, True),
            ((take, stop), -1, ("1 1 1 . - 0 - -",), False), ((take, stop), 1, ("1 1 1 . - 0 - -",), False),
        ):
            self.assertIs(shows_going(link, Stuck(steps, mark, lot)), right, (steps, mark, lot))

    def test_stuck_looks_at_steps_without_faults_only(self):
        found = goes_on(LOSSY)
        self.assertIs(shows_going(LOSSY, found), True)
        # With a letter on its way the receiver can hear it: without faults this leads out of the lot, or ends the wait.
        for steps, mark, lot in (((Act("sender", 0),), 0, ("1 1 1 a 0a 0 - -",)), ((Act("sender", 0),), None, ("1 0 1 . 0. 0 - -",))):
            self.assertIs(shows_going(LOSSY, Stuck(steps, mark, lot)), False)
        self.assertIs(shows_going(CALM, found), False)
        quiet = Link(LOSSY.sender, Receiver(), LOSSY.down, LOSSY.up)
        self.assertIs(shows_going(quiet, Stuck((Act("sender", 0),), 0, ("1 1 1 a 0a 0 - -",))), True)

    def test_long_papers(self):
        link = Link(Sender.read("0 : - > 1 ; 1 : - > 0"), Receiver(), Channel(1), Channel(1))
        lot = ("1 0 0 - - 0 - -", "1 0 1 - - 0 - -")
        steps = (Act("sender", 0), Act("sender", 1)) * 10000
        self.assertIs(shows_going(link, Stuck(steps, None, lot)), True)
        self.assertIs(shows_going(link, Stuck(steps + steps[:1], None, lot)), False)
        self.assertIs(shows_going(link, Stuck(steps[:-1], None, lot)), True)
        # Pictures of no run, in which no row can be done.
        rest = [f"1 0 {one} {box} - {other} - {answers}" for one in range(2, 24) for box in "-." for other in (1, 2)
                for answers in self.words_of_answers()]
        link = link.with_channels(Channel(1), Channel(3))
        for many, right in ((20000, True), (20001, False)):
            far = tuple(sorted(rest[:many - 2] + list(lot)))
            self.assertEqual(len(set(far)), many)
            self.assertIs(shows_going(link, Stuck((), None, far)), right)

    def words_of_answers(self):
        return ["-"] + [word for size in (1, 2, 3) for word in map("".join, itertools.product("012345", repeat=size))]

    def test_long_ranks(self):
        link = Link(Sender.read("0 empty 0 : take 0 , send 0 0 , clear 0 > 0"),
                    Receiver.read("0 hear 0 : put 0 , out 0 > 0 ; 0 full 0 : out 0 > 0"), Channel(1), Channel(3))
        ranks = goes_on(link).ranks
        # Pictures of no run, with one step: it hands the marked message out.
        rest = [(f"1 1 {state} {box} {letters} 0 a {answers}", 1) for state in range(1, 24) for box in "-.a"
                for letters in ("-", "3.") for answers in self.words_of_answers()]
        for many, right in ((20000, True), (20001, False)):
            far = tuple(sorted(list(ranks) + rest[:many - len(ranks)]))
            self.assertEqual(len(set(far)), many)
            self.assertIs(shows_going(link, Goes(far)), right)

    def test_what_goes_on_tells_is_shown(self):
        dice = dice_of(47)
        for _ in range(40):
            link, other = chance_link(dice, 1), chance_link(dice, 1)
            found = goes_on(link)
            self.assertIs(shows_going(link, found), True)
            if found and [link.sender.boxes, link.receiver.boxes] == [other.sender.boxes, other.receiver.boxes]:
                if all(is_picture(other, picture) for picture, _ in found.ranks):
                    self.assertIs(shows_going(other, found), self.naive_goes(other, found.ranks))
