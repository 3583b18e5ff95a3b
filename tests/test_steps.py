"""Tests of markedpair.steps."""

import unittest

from markedpair.errors import BadStep
from markedpair.steps import Act, Hear, Lose, Step
from tests.support import ANY, assert_raises, assert_read, assert_reads_only_strings, dice_of, edited
from tests.support import first_wrong_word, integers_outside, single_edits

NO_SIDES = [value for value in ANY if value not in ("sender", "receiver")] + ["Sender", "senders"]
NO_WAYS = [value for value in ANY if value not in ("down", "up")] + ["Down", "left"]
NO_INDEXES = integers_outside(0, 119)
NO_PLACES = integers_outside(0, 2)
NO_BOOLS = [value for value in ANY if not isinstance(value, bool)]
VOCABULARY = [
    "sender", "receiver", "lose", "place", "stays", "down", "up", "0", "1", "2", "3", "119", "120", "00", "01", "+1", "-1",
    "-0", "", "x", "stay", "1\n", "-",
]
HEARS = [(side, at, place, stays) for side in ("sender", "receiver") for at in (0, 1, 60, 118, 119)
         for place in range(3) for stays in (False, True)]


def some_steps():
    """Steps of all kinds, at their bounds."""
    acts = [Act(side, at) for side in ("sender", "receiver") for at in (0, 1, 60, 118, 119)]
    return acts + [Hear(*parts) for parts in HEARS] + [Lose(way, place) for way in ("down", "up") for place in range(3)]


class TestStepsMade(unittest.TestCase):

    def test_classes(self):
        for kind in (Act, Hear, Lose):
            self.assertEqual(kind.__bases__, (Step,))

    def test_acts(self):
        for side in ("sender", "receiver"):
            for at in (0, 1, 119):
                for step in (Act(side, at), Act(at=at, side=side)):
                    self.assertEqual(vars(step), {"side": side, "at": at})

    def test_hears(self):
        for side, at, place, stays in HEARS:
            wanted = {"side": side, "at": at, "place": place, "stays": stays}
            for step in (Hear(side, at, place, stays), Hear(**wanted), Hear(side, at, stays=stays, place=place)):
                self.assertEqual(vars(step), wanted)
                self.assertIs(step.stays, stays)
        self.assertEqual(vars(Hear("sender", 3)), {"side": "sender", "at": 3, "place": 0, "stays": False})
        self.assertEqual(vars(Hear("sender", 3, 2)), {"side": "sender", "at": 3, "place": 2, "stays": False})
        self.assertIs(Hear("sender", 3, stays=True).stays, True)

    def test_losses(self):
        for way in ("down", "up"):
            for place in range(3):
                for step in (Lose(way, place), Lose(place=place, way=way)):
                    self.assertEqual(vars(step), {"way": way, "place": place})

    def test_one_wrong_part(self):
        for value in NO_SIDES:
            assert_raises(self, BadStep("side"), Act, value, 0)
            assert_raises(self, BadStep("side"), Hear, value, 0)
        for value in NO_INDEXES:
            assert_raises(self, BadStep("at"), Act, "sender", value)
            assert_raises(self, BadStep("at"), Hear, "receiver", at=value)
        for value in NO_WAYS:
            assert_raises(self, BadStep("way"), Lose, value, 0)
        for value in NO_PLACES:
            assert_raises(self, BadStep("place"), Lose, "up", value)
            assert_raises(self, BadStep("place"), Hear, "sender", 0, value)
            assert_raises(self, BadStep("place"), Hear, "sender", 0, place=value, stays=True)
        for value in NO_BOOLS:
            assert_raises(self, BadStep("stays"), Hear, "sender", 0, 0, value)
            assert_raises(self, BadStep("stays"), Hear, "sender", 119, stays=value)

    def test_two_wrong_parts_tell_the_first_one(self):
        dice = dice_of(53)
        wrong = {"side": NO_SIDES, "at": NO_INDEXES, "place": NO_PLACES, "stays": NO_BOOLS}
        names = list(wrong)
        for _ in range(2000):
            one, other = sorted(dice.sample(range(4), 2))
            told = {"side": "sender", "at": 0, "place": 0, "stays": False}
            for name in (names[one], names[other]):
                told[name] = dice.choice(wrong[name])
            assert_raises(self, BadStep(names[one]), Hear, **told)
        for _ in range(500):
            assert_raises(self, BadStep("side"), Act, dice.choice(NO_SIDES), dice.choice(NO_INDEXES))
            assert_raises(self, BadStep("way"), Lose, dice.choice(NO_WAYS), dice.choice(NO_PLACES))


class TestStepsAsked(unittest.TestCase):

    def test_is_fault(self):
        for side in ("sender", "receiver"):
            self.assertIs(Act(side, 5).is_fault, False)
            told = [Hear(side, 5, place, stays).is_fault for stays in (False, True) for place in range(3)]
            self.assertEqual(told, [False, True, True, True, True, True])
            self.assertTrue(all(type(value) is bool for value in told))
        for way in ("down", "up"):
            for place in range(3):
                self.assertIs(Lose(way, place).is_fault, True)

    def test_equality(self):
        steps, again = some_steps(), some_steps()
        for at, one in enumerate(steps):
            for k, other in enumerate(again):
                self.assertIs(one == other, at == k, (str(one), str(other)))
                self.assertIs(one != other, at != k)
        self.assertIs(Act("sender", 0) == Hear("sender", 0), False)
        self.assertIs(Hear("sender", 0) == Act("sender", 0), False)
        step = Act("receiver", 77)
        for value in ANY + ["receiver 77", ("receiver", 77)]:
            self.assertIs(step == value, False)
            self.assertIs(value == step, False)


class TestStepsWrittenAndRead(unittest.TestCase):

    def setUp(self):
        texts = [f"{side} {at}" for side in ("sender", "receiver") for at in range(120)]
        texts += [f"{text} place {place}{end}" for text in list(texts) for place in range(3) for end in ("", " stays")]
        texts += [f"lose {way} {place}" for way in ("down", "up") for place in range(3)]
        self.texts = texts
        self.whole = {tuple(text.split(" ")) for text in texts}
        self.begun = {words[:many] for words in self.whole for many in range(1, 6)}

    def wrong_word(self, text):
        return first_wrong_word(text, lambda words: tuple(words) in self.begun, lambda words: tuple(words) in self.whole)

    def test_texts(self):
        for step, text in [
            (Act("sender", 3), "sender 3"), (Act("receiver", 119), "receiver 119"), (Hear("sender", 0), "sender 0 place 0"),
            (Hear("receiver", 2, 1), "receiver 2 place 1"), (Hear("receiver", 2, 1, True), "receiver 2 place 1 stays"),
            (Hear("sender", 2, stays=True), "sender 2 place 0 stays"), (Lose("down", 1), "lose down 1"),
            (Lose("up", 0), "lose up 0"),
        ]:
            self.assertEqual(str(step), text)
            self.assertEqual(Step.read(text), step)
            self.assertIs(type(Step.read(text=text)), type(step))

    def test_all_texts(self):
        for text in self.texts:
            self.assertEqual(str(Step.read(text)), text)
        for step in some_steps():
            self.assertEqual(Step.read(str(step)), step)
        self.assertEqual(Step.read("sender 4 place 0"), Hear("sender", 4))

    def test_by_hand(self):
        for text, wrong in [
            ("", 0), (" ", 0), ("sender", 1), ("sender ", 1), ("sender 120", 1), ("sender 01", 1), ("sender +1", 1),
            ("sender -0", 1), ("sender 0 ", 2), ("sender 0 stays", 2), ("sender 0 place", 3), ("sender 0 place 3", 3),
            ("sender 0 place 0 stay", 4), ("sender 0 place 0 stays stays", 5), ("sender 0 place 0 stays ", 5),
            ("lose", 1), ("lose down", 2), ("lose down 3", 2), ("lose sender 0", 1), ("lose up 0 stays", 3),
            ("sender  0", 1), (" sender 0", 0), ("Sender 0", 0), ("act 0", 0), ("sender 0\n", 1), ("sender 0 place 1\n", 3),
        ]:
            self.assertEqual(self.wrong_word(text), wrong, text)
            assert_read(self, Step.read, text, wrong)

    def test_texts_with_edits(self):
        dice = dice_of(59)
        for text in [str(step) for step in some_steps()]:
            for changed in single_edits(text, VOCABULARY):
                assert_read(self, Step.read, changed, self.wrong_word(changed))
        for _ in range(4000):
            text = edited(dice.choice(self.texts), VOCABULARY, dice.choice([1, 2, 3]), dice)
            assert_read(self, Step.read, text, self.wrong_word(text))

    def test_what_is_no_string(self):
        assert_reads_only_strings(self, Step.read)
