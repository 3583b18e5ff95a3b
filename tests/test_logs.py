"""Tests of logs: the logs of runs, the first wrong entry, explanations, and how a log can go on."""

import unittest

from markedpair.channels import Channel, Doubles, Loses
from markedpair.ends import Receiver, Sender
from markedpair.errors import BadCount, BadLink, BadLog, BadRun, TooMany
from markedpair.links import Link
from markedpair.logs import explained, first_wrong, log_of, next_entries
from markedpair.pictures import reached
from markedpair.runs import Run
from markedpair.steps import Act, Hear, Step
from tests import naive
from tests.links import AGAIN, DEAF, chance_link, link_of, one_by_one
from tests.support import ANY, assert_raises, dice_of, integers_outside
from tests.test_used import small_links

NO_LINKS = [value for value in ANY if not isinstance(value, Link)]
ENTRIES = [f"{word} {number}" for word in ("answered", "got", "heard", "sent") for number in range(6)]
LINK = link_of(AGAIN)
# Steps with several entries each.
LONG = Link(
    Sender.read("0 : take 0 , send 0 0 , send 0 1 , clear 0 > 1 ; 1 hear other : take 0 , send 0 2 > 1"),
    Receiver.read("0 hear 0 : answer 3 , put 0 , answer 4 > 0 ; 0 hear other : answer 5 > 0 ; 0 : out 0 > 0"),
    Channel(2, Doubles()), Channel(2, Loses()),
)


def naive_entries(link, picture, text):
    """The entries of the step with this text, done at a picture."""
    _, _, state = naive.read(picture)
    step = Step.read(text)
    if text.startswith("lose"):
        return []
    row = (link.sender if step.side == "sender" else link.receiver)[step.at]
    words = ("got", "sent") if step.side == "sender" else ("heard", "answered")
    entries = []
    if isinstance(step, Hear):
        entries.append(f"{words[0]} {state[naive.INBOX[step.side]][step.place][0]}")
    for deed in row.deeds:
        verb, *told = str(deed).split(" ")
        if verb in ("send", "answer"):
            entries.append(f"{words[1]} {told[-1]}")
    return entries


class NaiveLogs:
    """All logs of a link, entry by entry: a place is a picture and the entries of its last step that are still to come."""

    def __init__(self, link):
        self.paths = {}
        levels, _ = naive.levels(link, 0)
        for picture in [picture for level in levels for picture in level]:
            found = [(naive_entries(link, picture, text), then) for text, _, then, _ in naive.moves(link, picture)]
            self.paths[picture] = found
        self.beginning = levels[0][0]

    def spread(self, places):
        """The places that are come to by steps from those of which nothing is still to come."""
        places, new = set(places), list(places)
        while new:
            picture, left = new.pop()
            if not left:
                for entries, then in self.paths[picture]:
                    if (then, tuple(entries)) not in places:
                        places.add((then, tuple(entries)))
                        new.append((then, tuple(entries)))
        return places

    def read(self, log):
        """The places behind a log."""
        places = self.spread({(self.beginning, ())})
        for entry in log:
            places = self.spread({(picture, left[1:]) for picture, left in places if left[:1] == (entry,)})
        return places

    def following(self, log):
        """The ascending tuple of the entries with which a log can go on."""
        return tuple(sorted({left[0] for _, left in self.read(log) if left}))


def run_log(link, steps):
    """The log of a run of the naive program."""
    play, log = naive.Play(link), []
    for step in steps:
        log += naive_entries(link, play.seen(), str(step))
        play.do(step)
    return log


def shortest(link, log, most):
    """The number of steps of a shortest run whose log begins with this one, by all runs of up to so many steps; or None."""
    level = {(naive.written(0, 0, naive.beginning(link)), ())}
    for steps in range(most + 1):
        if any(list(told[:len(log)]) == log for _, told in level):
            return steps
        new = set()
        for picture, told in level:
            for text, _, then, _ in naive.moves(link, picture):
                longer = told + tuple(naive_entries(link, picture, text))
                if list(longer[:len(log)]) == log[:len(longer)]:
                    new.add((then, longer[:len(log)]))
        level = new
    return None


def walk(link, dice, most):
    """A run by chance."""
    run = Run.of(link, [])
    for _ in range(most):
        lot = list(run.open_steps())
        if lot:
            run.do(dice.choice(lot))
    return run


class TestLogOf(unittest.TestCase):

    def test_no_runs(self):
        for value in ANY:
            if not isinstance(value, Run):
                assert_raises(self, BadRun("run"), log_of, value)
                assert_raises(self, BadRun("run"), log_of, run=value)

    def test_by_hand(self):
        texts = ("sender 0", "receiver 0 place 0", "lose up 0", "sender 1 place 0", "receiver 2", "receiver 1 place 0 stays")
        steps = [Step.read(text) for text in texts]
        log = ("sent 0", "sent 1", "heard 0", "answered 3", "answered 4", "got 4", "sent 2", "heard 1", "answered 5")
        for many, entries in ((0, 0), (1, 2), (2, 5), (3, 5), (4, 7), (5, 7), (6, 9)):
            self.assertEqual(log_of(Run.of(LONG, steps[:many])), log[:entries])
        self.assertEqual(log_of(run=Run.of(LONG, steps, ["p", "q"])), log)
        self.assertEqual(log_of(Run(LONG)), ())

    def test_as_the_naive_program(self):
        dice = dice_of(71)
        for _ in range(60):
            link = chance_link(dice, 3)
            run = walk(link, dice, 15)
            log = log_of(run)
            self.assertIsInstance(log, tuple)
            self.assertEqual(list(log), run_log(link, run.done))

    def test_undone_steps_have_no_entries(self):
        run = Run.of(LINK, [Act("sender", 0), Act("sender", 1), Hear("receiver", 0)])
        self.assertEqual(log_of(run), ("sent 0", "heard 0", "answered 0"))
        run.undo()
        self.assertEqual(log_of(run), ("sent 0",))


class TestErrors(unittest.TestCase):

    def test_no_link_comes_ahead_of_all_others(self):
        for call in (first_wrong, explained, next_entries):
            for value in NO_LINKS:
                assert_raises(self, BadLink("link"), call, value, None, 0)
                assert_raises(self, BadLink("link"), call, limit=0, log=["x"], link=value)

    def test_logs(self):
        for call in (first_wrong, explained, next_entries):
            for value in ANY:
                if not isinstance(value, (list, tuple)):
                    assert_raises(self, BadLog(None), call, LINK, value, 0)
                if value not in ENTRIES:
                    assert_raises(self, BadLog(1), call, LINK, ["sent 0", value, None], 0)
                    assert_raises(self, BadLog(0), call, link=LINK, log=(value,), limit=0)
            for many in (61, 70):
                assert_raises(self, BadLog(None), call, LINK, ["sent 7"] * many, 0)
            assert_raises(self, BadLog(59), call, LINK, ["sent 0"] * 59 + [None])
            for text in ("sent 6", "sent", "sent 0 ", " sent 0", "sent  0", "sent 00", "Sent 0", "sent -1", "sent x", "take 0", "sent 0 1",
                         "sent 0\n", "sent\n0", "0 sent", "sent 10", "got", "heard +1"):
                assert_raises(self, BadLog(2), call, LINK, ["got 0", "heard 5", text, text])

    def test_limit(self):
        for call in (first_wrong, explained, next_entries):
            for value in integers_outside(1, 20000) + [20001]:
                assert_raises(self, BadCount(value), call, LINK, [], value)
                assert_raises(self, BadCount(value), call, LINK, ("sent 0",), limit=value)
            needed = len(reached(LINK, 0))
            for log in ([], ["sent 0"], ["sent 1"]):
                call(LINK, log, needed)
                for limit in (1, needed - 1):
                    # Whatever the log needs, as the pictures without marks are counted.
                    assert_raises(self, TooMany("pictures", limit), call, LINK, log, limit)

    def test_all_entries_are_known(self):
        for entry in ENTRIES:
            self.assertIn(first_wrong(LINK, [entry]), (0, None))
            self.assertEqual(first_wrong(LINK, ("sent 0", "heard 0", "heard 5", entry)), 2)


class TestByHand(unittest.TestCase):

    def test_within_the_entries_of_one_step(self):
        take, hear = Act("sender", 0), Hear("receiver", 0)
        for log, steps in (([], ()), (["sent 0"], (take,)), (["sent 0", "sent 1"], (take,)),
                           (["sent 0", "sent 0"], None), (["sent 1"], None), (["sent 0", "heard 0"], None)):
            self.assertEqual(explained(LONG, log), steps)
        for log in (["sent 0", "sent 1", "heard 0"], ["sent 0", "sent 1", "heard 0", "answered 3"]):
            self.assertIn(explained(LONG, log), ((take, hear), (take, Hear("receiver", 0, 0, True))))
        for log, wanted in (([], ("sent 0",)), (["sent 0"], ("sent 1",)), (["sent 0", "sent 1"], ("heard 0",)),
                            (["sent 0", "sent 1", "heard 0"], ("answered 3",)), (["sent 0", "sent 1", "heard 0", "answered 3"], ("answered 4",)),
                            (["sent 0", "sent 1", "heard 0", "answered 3", "answered 4"], ("got 3", "got 4", "heard 0", "heard 1")),
                            (["sent 0", "heard 0"], ())):
            self.assertEqual(next_entries(LONG, log), wanted, log)

    def test_first_wrong(self):
        for log, at in (([], None), (["sent 0"], None), (["sent 1"], 0), (["sent 0", "heard 0"], 1), (["sent 0", "sent 1", "got 3"], 2),
                        (["sent 0", "sent 1", "heard 0", "answered 4", "answered 3"], 3), (("sent 0", "sent 1", "heard 0", "answered 3"), None)):
            self.assertEqual(first_wrong(LONG, log), at, log)
            self.assertEqual(first_wrong(log=log, link=LONG), at)

    def test_lost_and_doubled_letters(self):
        log = ["sent 0", "heard 0", "answered 0", "heard 0"]
        self.assertEqual(first_wrong(link_of(AGAIN, "1", "2"), log), 3)
        self.assertIsNone(first_wrong(link_of(AGAIN, "1 doubles", "2"), log))
        self.assertEqual(first_wrong(link_of(AGAIN, "1 doubles", "1"), log), 3)
        # What is lost makes room.
        self.assertEqual(first_wrong(link_of(AGAIN, "1"), ["sent 0", "sent 0"]), 1)
        self.assertIsNone(first_wrong(link_of(AGAIN, "1 loses"), ["sent 0", "sent 0"]))

    def test_other_hears_a_number(self):
        link = link_of(one_by_one(2), "1", "1")
        log = ["sent 0", "heard 0", "answered 0", "sent 0", "heard 0", "answered 0"]
        # Without room for its answer the row cannot be done.
        self.assertEqual(first_wrong(link, log), 4)
        self.assertIsNone(first_wrong(link_of(one_by_one(2), "1", "2"), log))
        self.assertEqual(next_entries(link, log[:3]), ("got 0", "sent 0"))

    def test_long_logs(self):
        link = link_of((Sender.read("0 : take 0 , send 0 0 > 1 ; 1 : send 0 1 > 0"), Receiver()), "1 loses")
        log = ["sent 0", "sent 1"] * 30
        self.assertEqual([len(log), len(explained(link, log)), first_wrong(link, log)], [60, 119, None])
        self.assertEqual(next_entries(link, log), ("sent 0",))
        self.assertEqual(next_entries(link, log[:59]), ("sent 1",))
        self.assertEqual(first_wrong(link, log[:59] + ["sent 0"]), 59)
        self.assertEqual(next_entries(link_of(DEAF), ["sent 0"]), ())


class TestAsTheNaiveProgram(unittest.TestCase):

    def logs_of(self, link, dice):
        """Logs of runs by chance, some with an entry changed, left out or put in."""
        found = [[]]
        for _ in range(6):
            log = list(log_of(walk(link, dice, 14)))[:60]
            found += [log, log[:dice.randint(0, len(log))]]
            if log:
                at = dice.randrange(len(log))
                found += [log[:at] + [dice.choice(ENTRIES)] + log[at + dice.choice([0, 1]):], log[:at] + log[at + 1:]]
        return found

    def test_all_three(self):
        dice = dice_of(73)
        for link in small_links(dice, 25, 250):
            other = NaiveLogs(link)
            for log in self.logs_of(link, dice):
                log = log[:60]
                wrong = next((at for at in range(len(log)) if not other.read(log[:at + 1])), None)
                self.assertEqual(first_wrong(link, log), wrong)
                self.assertEqual(next_entries(link, tuple(log)), other.following(log))
                self.assert_explained(link, log, wrong)

    def assert_explained(self, link, log, wrong):
        steps = explained(link, log)
        if wrong is not None:
            self.assertIsNone(steps)
            return
        self.assertIsInstance(steps, tuple)
        self.assertEqual(list(log_of(Run.of(link, steps)))[:len(log)], log)
        self.assertEqual(explained(link, log), steps)

    def test_shortest(self):
        dice, many = dice_of(75), 0
        for link in small_links(dice, 25, 120):
            for log in self.logs_of(link, dice)[:12]:
                steps = explained(link, log)
                wanted = shortest(link, log, 9)
                if steps is None or len(steps) > 9:
                    self.assertIsNone(wanted)
                else:
                    many += 1
                    self.assertEqual(len(steps), wanted)
        self.assertGreater(many, 50)

    def test_the_log_of_each_run_is_explained(self):
        dice = dice_of(77)
        for link in small_links(dice, 20, 300):
            log = log_of(walk(link, dice, 20))[:60]
            for many in range(len(log) + 1):
                self.assertIsNone(first_wrong(link, log[:many]))
                self.assertIsNotNone(explained(link, log[:many]))
                if many < len(log):
                    self.assertIn(log[many], next_entries(link, log[:many]))

    def test_arguments_stay_as_they_are(self):
        log = ["sent 0", "heard 0"]
        for call in (first_wrong, explained, next_entries):
            call(LINK, log)
        self.assertEqual(log, ["sent 0", "heard 0"])
