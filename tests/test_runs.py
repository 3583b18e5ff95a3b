"""Tests of runs: steps, what blocks them, undo, trials, twins, and what a run shows."""

import unittest

from markedpair.channels import Channel, Doubles, Loses, Overtakes
from markedpair.ends import Receiver, Sender
from markedpair.errors import BadRun, BadStep, Blocked, Nothing, TooMany
from markedpair.links import Link
from markedpair.runs import Run
from markedpair.steps import Act, Hear, Lose, Step
from tests import naive
from tests.links import AGAIN, ROUGH, TWICE, chance_link, link_of, two_at_a_time
from tests.support import ANY, assert_raises, dice_of

NO_LINKS = [value for value in ANY if not isinstance(value, Link)]
NO_STEPS = [value for value in ANY if not isinstance(value, (Act, Hear, Lose))] + [Step()]
LINK = link_of(AGAIN, "1", "2")
# Each word of blocked has a row of its own here.
WORDS = Link(
    Sender.read("0 empty 0 : take 0 > 0 ; 0 full 0 : send 0 0 > 0 ; 1 : - > 0 ; 0 hear 0 full 0 : clear 0 > 0 ; "
                "0 : clear 1 > 0 ; 0 hear other full 1 : - > 0 ; 0 : take 1 , clear 1 , clear 1 > 0"),
    Receiver.read("0 hear 0 : put 0 , answer 0 > 0 ; 0 : out 0 > 0 ; 0 : move 0 1 > 0 ; 0 hear 1 : - > 0"),
    Channel(2), Channel(1, Loses()),
)


def texts(steps):
    """The texts of steps."""
    return [str(step) for step in steps]


def steps_of(*told):
    """The steps with these texts."""
    return [Step.read(text) for text in told]


def walk(run, dice, most):
    """Does up to so many open steps by chance."""
    for _ in range(most):
        lot = list(run.open_steps())
        if not lot:
            return
        run.do(dice.choice(lot))


def shown(run):
    """All that a run shows."""
    return [
        texts(run.done), run.took, run.outs, run.out, run.is_true, run.letters(), run.answers(), run.seen(),
        run.seen(0), run.seen(1), run.seen(0, 1), texts(run.open_steps()),
        [(run.state_of(side), run.boxes_of(side)) for side in ("sender", "receiver")],
    ]


class TestMade(unittest.TestCase):

    def test_any_values(self):
        for value in NO_LINKS:
            assert_raises(self, BadRun("link"), Run, value)
            assert_raises(self, BadRun("link"), Run, link=value, messages=7)
        for value in ANY + [[None] * 101, (0,) * 101]:
            if not isinstance(value, (list, tuple)) or len(value) > 100:
                assert_raises(self, BadRun("messages"), Run, LINK, value)
                assert_raises(self, BadRun("messages"), Run, messages=value, link=LINK)

    def test_messages_are_kept_as_they_are(self):
        told = (ANY + ANY)[:100]
        messages = list(told)
        run = Run(LINK, messages)
        messages[0] = "changed"
        for _ in range(100):
            for step in steps_of("sender 0", "sender 1", "receiver 0 place 0", "sender 2 place 0"):
                run.do(step)
        self.assertEqual(run.blocked(Act("sender", 0)), "message")
        self.assertEqual(run.outs, tuple(range(100)))
        self.assertEqual(len(run.out), 100)
        for got, wanted in zip(run.out, told):
            self.assertIs(got, wanted)

    def test_without_messages_nothing_is_taken(self):
        run = Run(LINK)
        self.assertEqual([run.blocked(Act("sender", 0)), list(run.open_steps())], ["message", []])
        assert_raises(self, Blocked("message"), run.do, Act("sender", 0))

    def test_at_the_beginning(self):
        run = Run(link_of(two_at_a_time(2), "3", "1"), ["m"])
        self.assertEqual(run.boxes_of("sender"), (None, None))
        self.assertEqual(run.boxes_of(side="receiver"), (None,))
        self.assertEqual([run.state_of("sender"), run.state_of(side="receiver")], [0, 0])
        self.assertEqual([run.done, run.took, run.outs, run.out, run.is_true], [(), 0, (), (), True])
        self.assertEqual([run.letters(), run.answers()], [(), ()])
        self.assertIs(run.is_true, True)

    def test_a_run_equals_itself_only(self):
        run = Run(LINK)
        self.assertTrue(run == run)
        self.assertFalse(run == Run(LINK) or run == run.twin())


class TestSteps(unittest.TestCase):

    def test_do_and_in_place(self):
        run = same = Run(LINK, ("p", "q"))
        run += Act("sender", 0)
        self.assertIs(run, same)
        self.assertIsNone(run.do(step=Act("sender", 1)))
        self.assertEqual(texts(run.done), ["sender 0", "sender 1"])
        self.assertIsInstance(run.done, tuple)
        self.assertEqual([run.boxes_of("sender"), run.letters()], [(0,), ((0, 0),)])
        run += Hear("receiver", 0)
        self.assertEqual([run.out, run.answers(), run.letters(), run.boxes_of("receiver")], [("p",), (0,), (), (None,)])

    def test_no_steps(self):
        run = Run(LINK, ["p"])
        for value in NO_STEPS:
            for call in (run.do, run.blocked, run.__iadd__):
                assert_raises(self, BadStep("step"), call, value)
        self.assertEqual(run.done, ())

    def test_a_refused_step_changes_nothing(self):
        dice = dice_of(5)
        for _ in range(20):
            link = chance_link(dice)
            run = Run(link, ["p"] * 3)
            walk(run, dice, 10)
            ahead = shown(run)
            for step in naive.every_step(link):
                word = run.blocked(step)
                if word is not None:
                    assert_raises(self, Blocked(word), run.do, step)
                    with self.assertRaises(Blocked):
                        run += step
            self.assertEqual(shown(run), ahead)

    def test_400_steps(self):
        link = Link(Sender.read("0 : - > 0"), Receiver(), Channel(1), Channel(1))
        run = Run(link)
        for _ in range(400):
            run.do(Act("sender", 0))
        assert_raises(self, TooMany("steps", 400), run.do, Act("sender", 0))
        assert_raises(self, TooMany("steps", 400), run.do, Act("sender", 1))
        assert_raises(self, BadStep("step"), run.do, None)
        self.assertEqual([run.blocked(Act("sender", 0)), run.blocked(Act("sender", 1))], [None, "row"])
        self.assertEqual([texts(run.open_steps()), len(run.done)], [["sender 0"], 400])
        run.undo()
        run.do(Act("sender", 0))
        assert_raises(self, TooMany("steps", 400), run.do, Act("sender", 0))


class TestBlocked(unittest.TestCase):

    def assert_words(self, run, words):
        for text, word in words.items():
            self.assertEqual(run.blocked(Step.read(text)), word, text)

    def test_words_of_rows(self):
        run = Run(WORDS, ["p", "q"])
        self.assert_words(run, {
            "sender 7": "row", "sender 119": "row", "receiver 4": "row", "sender 3": "row", "sender 0 place 0": "row",
            "sender 2 place 0": "row", "sender 2": "state", "sender 3 place 0": "letter", "sender 1": "boxes",
            "sender 4": "box", "sender 6": "box", "receiver 1": "box", "receiver 2": "box", "sender 0": None,
            "lose down 0": "letter", "lose up 0": "letter",
        })

    def test_words_of_what_lies_in_channels(self):
        run = Run.of(WORDS, steps_of("sender 0", "sender 1", "sender 1"), ["p", "q"])
        self.assert_words(run, {
            "sender 1": "room", "lose down 0": "fault", "lose down 2": "letter", "receiver 0 place 0": None,
            "receiver 0 place 1": "fault", "receiver 0 place 2": "letter", "receiver 0 place 0 stays": "fault",
            "receiver 3 place 0": "number", "receiver 3 place 0 stays": "fault", "receiver 3 place 2": "letter",
        })
        run.do(Hear("receiver", 0))
        self.assert_words(run, {
            "receiver 0 place 0": "room", "lose up 0": None, "lose up 1": "letter", "sender 3 place 0": None,
            "sender 5 place 0": "number", "sender 3 place 0 stays": "fault", "receiver 1": None, "receiver 2": None,
        })
        run = Run.of(WORDS, steps_of("sender 0"), ["p"])
        self.assert_words(run, {"sender 0": "boxes", "sender 6": "message"})

    def test_other_looks_at_boxes_and_not_at_deeds(self):
        rows = "0 : take 0 , send 0 0 > 0 ; 0 hear 1 full 0 : clear 1 > 0 ; 0 hear other : - > 0 ; 1 hear 1 : - > 0"
        link = Link(Sender.read(rows), Receiver.read("0 hear 0 : answer 1 > 0"), Channel(1), Channel(1))
        run = Run.of(link, steps_of("sender 0", "receiver 0 place 0"))
        # The row that hears 1 cannot be done, but it hears.
        self.assert_words(run, {"sender 1 place 0": "box", "sender 2 place 0": "number", "sender 3 place 0": "state"})
        link = Link(Sender.read(rows.replace("full 0", "empty 0")), link.receiver, Channel(1), Channel(1))
        run = Run.of(link, steps_of("sender 0", "receiver 0 place 0"))
        self.assert_words(run, {"sender 1 place 0": "boxes", "sender 2 place 0": None})

    def test_each_word_stands_ahead_of_the_later_ones(self):
        # All that is told behind a word holds of its step, too.
        rows = ["1 hear 0 full 1 : clear 2 > 0", "0 hear 0 full 1 : clear 2 > 0", "0 hear 1 full 1 : clear 2 > 0",
                "0 : take 0 , send 0 0 > 0", "0 : send 1 0 , take 2 > 0", "0 : send 0 0 , take 2 > 0", "0 : take 2 , send 1 0 > 0"]
        link = Link(Sender.read(" ; ".join(rows)), Receiver.read("0 : answer 1 > 0"), Channel(1), Channel(1))
        run = Run(link, ["p"])
        self.assert_words(run, {
            "sender 7": "row", "sender 0": "row", "sender 0 place 2 stays": "state", "sender 1 place 2 stays": "letter",
            "sender 2 place 0 stays": "letter", "lose up 0": "letter", "receiver 0 place 0": "row",
        })
        for step in steps_of("sender 3", "receiver 0"):
            run.do(step)
        self.assert_words(run, {
            "sender 0 place 0": "state", "sender 1 place 1": "letter", "sender 1 place 0 stays": "fault", "sender 1 place 0": "number",
            "sender 2 place 0 stays": "fault", "sender 2 place 0": "boxes", "sender 4": "box", "sender 5": "room",
            "sender 6": "message", "lose up 0": "fault", "lose up 1": "letter", "lose down 0": "fault",
        })

    def test_deed_by_deed(self):
        rows = "0 : take 0 , send 0 0 , send 0 1 , clear 0 , clear 0 > 0 ; 0 : take 0 , send 0 0 , clear 1 > 0"
        for down, words in (("1", ["room", "box"]), ("2", ["box", "box"])):
            link = Link(Sender.read(rows), Receiver(), Channel.read(down), Channel(1))
            run = Run(link, ["p"])
            self.assertEqual([run.blocked(Act("sender", at)) for at in (0, 1)], words)
            self.assertEqual([Run(link).blocked(Act("sender", at)) for at in (0, 1)], ["message", "message"])

    def test_a_heard_letter_leaves_its_channel_and_staying_ones_stay(self):
        link = link_of(AGAIN, "2 loses doubles overtakes 1", "1 overtakes 2")
        run = Run.of(link, steps_of("sender 0", "sender 1", "receiver 0 place 0 stays"), ["p", "q"])
        self.assertEqual([run.letters(), run.answers()], [((0, 0),), (0,)])
        run = Run.of(link, steps_of("sender 0", "sender 1", "receiver 0 place 0 stays", "sender 2 place 0", "sender 0",
                                    "sender 1", "receiver 0 place 1"), ["p", "q"])
        self.assertEqual([run.letters(), run.out, run.is_true], [((0, 0),), ("p", "q"), True])
        run.do(Lose("down", 0))
        self.assertEqual([run.letters(), run.answers()], [(), (0,)])


class TestOpenSteps(unittest.TestCase):

    def test_their_order(self):
        rows = "0 hear 0 : - > 0 ; 0 : - > 0 ; 0 : take 0 , send 0 0 > 0 ; 0 hear other : - > 0"
        link = Link(Sender.read(rows), Receiver.read("0 hear 0 : - > 0 ; 0 : answer 0 > 0"), ROUGH, ROUGH)
        run = Run.of(link, steps_of("sender 2", "sender 2", "receiver 1"))
        self.assertEqual(texts(run.open_steps()), [
            "sender 0 place 0", "sender 0 place 0 stays", "sender 1", "sender 2",
            "receiver 0 place 0", "receiver 0 place 0 stays", "receiver 0 place 1", "receiver 0 place 1 stays",
            "receiver 1", "lose down 0", "lose down 1", "lose up 0",
        ])

    def test_it_is_a_generator_of_the_steps_that_can_be_done(self):
        run = Run(LINK, ["p"])
        lot = run.open_steps()
        self.assertEqual(str(next(lot)), "sender 0")
        self.assertRaises(StopIteration, next, lot)

    def test_the_run_can_change_meanwhile(self):
        run = Run.of(link_of(AGAIN, "2 loses", "2"), steps_of("sender 0", "sender 1"), ["p"])
        found = []
        for step in run.open_steps():
            found.append(str(step))
            run.do(step)
            run.undo()
        self.assertEqual(found, ["sender 1", "receiver 0 place 0", "lose down 0"])

    def test_walks_as_the_naive_program(self):
        dice = dice_of(7)
        for _ in range(40):
            link = chance_link(dice, 3)
            messages = dice.choice([None, ["p", "q", "r"]])
            run, other = Run.of(link, [], messages), naive.Play(link, messages)
            for _ in range(15):
                lot = other.open_steps()
                self.assertEqual(texts(run.open_steps()), texts(lot))
                for step in naive.every_step(link):
                    self.assertEqual(run.blocked(step), other.blocked(step))
                self.assert_shown(run, other)
                if not lot:
                    break
                step = dice.choice(lot)
                run.do(step)
                other.do(step)

    def assert_shown(self, run, other):
        self.assertEqual([run.took, run.outs, run.done], [other.took, tuple(other.outs), tuple(other.steps)])
        self.assertIs(run.is_true, not other.breaks())
        for side in ("sender", "receiver"):
            self.assertEqual(run.state_of(side), other.state[side])
            self.assertEqual(run.boxes_of(side), tuple(other.state[side + " boxes"]))
        self.assertEqual(run.letters(), tuple(other.state["down"]))
        self.assertEqual(run.answers(), tuple([number for number, _ in other.state["up"]]))
        for marked in ((), (0,), (1,), (2,), (40,), (0, 1), (0, 2), (1, 2), (1, 40)):
            self.assertEqual(run.seen(*marked), other.seen(*marked), marked)


class TestLookedAt(unittest.TestCase):

    def test_sides(self):
        run = Run(LINK)
        for value in ANY:
            if value not in ("sender", "receiver"):
                assert_raises(self, BadRun("side"), run.state_of, value)
                assert_raises(self, BadRun("side"), run.boxes_of, side=value)

    def test_is_true(self):
        run = Run.of(link_of(AGAIN, "1", "2"), steps_of("sender 0", "sender 1", "receiver 0 place 0", "sender 1"))
        self.assertIs(run.is_true, True)
        run.do(Hear("receiver", 0))
        self.assertIs(run.is_true, False)
        self.assertEqual([run.out, run.outs], [(0, 0), (0, 0)])

    def test_seen_wants_at_most_two_ascending_places(self):
        run = Run(LINK)
        for value in ANY:
            if not (type(value) is int and value >= 0):
                assert_raises(self, BadRun("marked"), run.seen, value)
                assert_raises(self, BadRun("marked"), run.seen, 0, value)
                assert_raises(self, BadRun("marked"), run.seen, value, 10 ** 40)
        for told in ((1, 0), (1, 1), (0, 1, 2), (0, 1, None), (2, 1, 0)):
            assert_raises(self, BadRun("marked"), run.seen, *told)
        self.assertEqual(run.seen(0, 10 ** 39), "2 0 0 - - 0 - -")

    def test_seen_behind_each_step(self):
        run = Run(link_of(AGAIN, "1 loses", "1"), ["p", "q"])
        self.assertEqual([run.seen(), run.seen(0), run.seen(0, 1)], ["0 0 0 - - 0 - -", "1 0 0 - - 0 - -", "2 0 0 - - 0 - -"])
        run.do(Act("sender", 0))
        self.assertEqual([run.seen(0), run.seen(1), run.seen(0, 1), run.seen(1, 2)],
                         ["1 1 0 a - 0 - -", "1 0 0 . - 0 - -", "2 1 0 a - 0 - -", "2 0 0 . - 0 - -"])
        run.do(Act("sender", 1))
        run.do(Hear("receiver", 0))
        self.assertEqual([run.seen(), run.seen(0), run.seen(0, 1)], ["0 0 0 . - 0 - 0", "1 2 0 a - 0 - 0", None])
        run.do(Hear("sender", 2))
        self.assertEqual([run.seen(), run.seen(0), run.seen(1), run.seen(0, 1)],
                         ["0 0 0 - - 0 - -", None, "1 0 0 - - 0 - -", None])

    def test_seen_of_lost_messages_and_behind_breaks(self):
        run = Run(Link(Sender.read("0 : take 0 > 0 ; 0 : send 0 0 > 0"), Receiver.read("0 hear 0 : put 0 , out 0 > 0"),
                       Channel(2, Loses(), Doubles()), Channel(1)), ["p", "q", "r"])
        for step in steps_of("sender 0", "sender 0"):
            run.do(step)
        # The first message was lost, and never handed out: this is not over.
        self.assertEqual([run.seen(0), run.seen(0, 1)], ["1 1 0 . - 0 - -", "2 2 0 b - 0 - -"])
        for step in steps_of("sender 1", "receiver 0 place 0 stays"):
            run.do(step)
        self.assertEqual([run.is_true, run.seen(0, 1), run.seen(1, 2)], [False, "2 2 0 b 0b 0 - -", None])
        run.do(Hear("receiver", 0))
        self.assertEqual([run.outs, run.seen(1), run.seen(0, 1)], [(1, 1), "1 2 0 a - 0 - -", "2 2 0 b - 0 - -"])
        run.do(Act("sender", 0))
        self.assertIsNone(run.seen(1))


class TestUndo(unittest.TestCase):

    def test_undo(self):
        run = Run(LINK, ["p"])
        assert_raises(self, Nothing(), run.undo)
        dice = dice_of(9)
        for _ in range(15):
            run = Run(chance_link(dice), ["p", "q"])
            stories = [shown(run)]
            for _ in range(12):
                walk(run, dice, 1)
                stories.append(shown(run))
            while run.done:
                last = run.done[-1]
                many = len(run.done)
                self.assertIs(run.undo(), last)
                self.assertEqual(len(run.done), many - 1)
                self.assertIn(shown(run), stories)
            self.assertEqual(shown(run), stories[0])
            assert_raises(self, Nothing(), run.undo)


class TestTrials(unittest.TestCase):

    def setUp(self):
        self.run_ = Run.of(LINK, steps_of("sender 0"), ["p", "q"])

    def test_a_trial_gives_the_run_and_takes_its_steps_back(self):
        run, ahead = self.run_, shown(self.run_)
        with run.trial() as same:
            self.assertIs(same, run)
            same.do(Act("sender", 1))
            self.assertEqual(len(run.done), 2)
        self.assertEqual(shown(run), ahead)

    def test_what_was_there_ahead_can_be_taken_back_inside(self):
        run, ahead = self.run_, shown(self.run_)
        with run.trial():
            run.undo()
            assert_raises(self, Nothing(), run.undo)
        self.assertEqual(shown(run), ahead)

    def test_nested(self):
        run, ahead = self.run_, shown(self.run_)
        with run.trial():
            run.do(Act("sender", 1))
            inner = shown(run)
            with run.trial() as same:
                same.undo()
                same.undo()
                with same.trial():
                    run.do(Act("sender", 0))
                self.assertEqual(run.done, ())
            self.assertEqual(shown(run), inner)
        self.assertEqual(shown(run), ahead)

    def test_one_trial_used_several_times(self):
        run, ahead = self.run_, shown(self.run_)
        trial = run.trial()
        with trial:
            run.do(Act("sender", 1))
            inner = shown(run)
            with trial:
                run.do(Hear("receiver", 0))
            self.assertEqual(shown(run), inner)
        self.assertEqual(shown(run), ahead)
        run.do(Act("sender", 1))
        with trial:
            run.undo()
        self.assertEqual(shown(run), inner)

    def test_an_error_goes_on(self):
        run, ahead = self.run_, shown(self.run_)
        with self.assertRaises(ZeroDivisionError):
            with run.trial():
                with run.trial():
                    run.do(Act("sender", 1))
                    1 // 0
        self.assertEqual(shown(run), ahead)
        with self.assertRaises(Blocked):
            with run.trial() as same:
                same += Act("sender", 1)
                same += Act("sender", 1)
        self.assertEqual(shown(run), ahead)

    def test_tried(self):
        run, ahead = self.run_, shown(self.run_)

        def work(same):
            self.assertIs(same, run)
            same.do(Act("sender", 1))
            return [same.letters()]

        self.assertEqual(run.tried(work), [((0, 0),)])
        self.assertEqual(shown(run), ahead)
        self.assertEqual(run.tried(work=lambda same: same.tried(work)), [((0, 0),)])
        self.assertIsNone(run.tried(lambda same: None))
        with self.assertRaises(KeyError):
            run.tried(lambda same: {}[same.do(Act("sender", 1))])
        self.assertEqual(shown(run), ahead)


class TestTwins(unittest.TestCase):

    def test_a_twin_goes_its_own_way(self):
        run = Run.of(LINK, steps_of("sender 0"), ["p", "q"])
        ahead = shown(run)
        twin = run.twin()
        self.assertEqual(shown(twin), ahead)
        twin.do(Act("sender", 1))
        self.assertEqual(shown(run), ahead)
        behind = shown(twin)
        run.undo()
        self.assertEqual(shown(twin), behind)
        twin.undo()
        twin.undo()
        assert_raises(self, Nothing(), twin.undo)

    def test_it_takes_the_same_messages(self):
        steps = steps_of("sender 0", "sender 1", "receiver 0 place 0", "sender 2 place 0", "sender 0", "sender 1")
        self.assertEqual(Run.of(LINK, steps[:4], ["p", "q"]).twin().blocked(steps[4]), None)
        self.assertEqual(Run.of(LINK, steps[:4], ["p"]).twin().blocked(steps[4]), "message")
        self.assertEqual(Run.of(LINK, steps[:4]).twin().blocked(steps[4]), None)
        twin = Run.of(LINK, steps).twin()
        twin.do(Hear("receiver", 0))
        self.assertEqual([twin.outs, twin.out], [(0, 1), (0, 1)])


class TestOf(unittest.TestCase):

    def test_any_values(self):
        for value in NO_LINKS:
            assert_raises(self, BadRun("link"), Run.of, value, 7)
            assert_raises(self, BadRun("link"), Run.of, value, [], messages=7)
        for value in ANY:
            if value is not None and (not isinstance(value, (list, tuple)) or len(value) > 100):
                assert_raises(self, BadRun("messages"), Run.of, LINK, 7, value)
            if not isinstance(value, (list, tuple)):
                assert_raises(self, BadRun("steps"), Run.of, LINK, value)
                assert_raises(self, BadRun("steps"), Run.of, link=LINK, steps=value, messages=[])
        for value in NO_STEPS:
            assert_raises(self, BadRun(1), Run.of, LINK, [Act("sender", 0), value])
            assert_raises(self, BadRun(0), Run.of, LINK, (value, value))

    def test_steps_that_cannot_be_done(self):
        assert_raises(self, BadRun(1), Run.of, LINK, steps_of("sender 0", "sender 0", "sender 1"))
        assert_raises(self, BadRun(0), Run.of, LINK, steps_of("sender 0"), [])
        assert_raises(self, BadRun(2), Run.of, LINK, steps_of("sender 0", "sender 1", "sender 1"))

    def test_more_than_400_steps(self):
        link = Link(Sender.read("0 : take 0 > 0"), Receiver(), Channel(1), Channel(1))
        run = Run.of(link, [Act("sender", 0)] * 400)
        self.assertEqual([len(run.done), run.took, run.boxes_of("sender")], [400, 400, (399,)])
        for last in (Act("sender", 0), Act("sender", 1), None):
            assert_raises(self, BadRun(400), Run.of, link, [Act("sender", 0)] * 400 + [last, None])
        assert_raises(self, BadRun(100), Run.of, link, [Act("sender", 0)] * 400, ["m"] * 100)

    def test_it_is_called_off_the_class_and_off_runs(self):
        steps = steps_of("sender 0", "sender 1", "receiver 0 place 0")
        self.assertIsInstance(vars(Run)["of"], staticmethod)
        self.assertEqual(shown(Run.of(LINK, tuple(steps), ("p",))), shown(Run(LINK).of(LINK, steps, ["p"])))
        self.assertEqual([Run.of(LINK, steps).out, Run.of(LINK, steps, None).out, Run.of(LINK, steps, ["p"]).out],
                         [(0,), (0,), ("p",)])

    def test_a_list_of_steps_can_be_changed_afterwards(self):
        steps = steps_of("sender 0", "sender 1")
        run = Run.of(LINK, steps)
        steps.clear()
        self.assertEqual(texts(run.done), ["sender 0", "sender 1"])

    def test_a_row_that_hands_out_twice(self):
        run = Run.of(link_of(TWICE), steps_of("sender 0", "receiver 0 place 0"), ["m"])
        self.assertEqual([run.out, run.outs, run.seen(0), run.seen(0, 1)], [("m", "m"), (0, 0), "1 2 0 a - 0 -- -", None])
