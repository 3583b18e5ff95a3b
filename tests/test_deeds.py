"""Tests of markedpair.deeds."""

import unittest

from markedpair.deeds import Answer, Clear, Deed, Move, Out, Put, Send, Take
from markedpair.errors import BadDeed
from tests.support import ANY, DEEDS, OBJECTS, assert_raises, assert_read, assert_reads_only_strings
from tests.support import dice_of, edited, first_wrong_word, integers_outside, single_edits

ONE_BOX = [Take, Put, Out, Clear]
VOCABULARY = [
    "take", "send", "put", "out", "answer", "move", "clear", "0", "1", "2", "3", "5", "6", "-1", "01", "+1", "-0",
    "", "1\n", "\n1", "Take", "takes", ",", ">", "-", "x", "10", "1.0", "True",
]
# Each kind: its verb, the sides, the names of its parameters.
KINDS = [
    (Take, "take", ["sender"], ["box"]),
    (Send, "send", ["sender"], ["box", "number"]),
    (Put, "put", ["receiver"], ["box"]),
    (Out, "out", ["receiver"], ["box"]),
    (Answer, "answer", ["receiver"], ["number"]),
    (Move, "move", ["sender", "receiver"], ["box", "to"]),
    (Clear, "clear", ["sender", "receiver"], ["box"]),
]


def right_arguments():
    """The triples (kind, names of parameters, arguments) of all deeds there are."""
    bounds = {"box": range(3), "number": range(6), "to": range(3)}
    found = []
    for kind, _, _, names in KINDS:
        lots = [[]]
        for name in names:
            lots = [lot + [value] for lot in lots for value in bounds[name]]
        found += [(kind, names, lot) for lot in lots if kind is not Move or lot[0] != lot[1]]
    return found


class TestDeedsMade(unittest.TestCase):

    def test_all_deeds_by_position_and_by_name(self):
        self.assertEqual(len(right_arguments()), 42)
        for kind, names, lot in right_arguments():
            for made in (kind(*lot), kind(**dict(zip(names, lot)))):
                self.assertIsInstance(made, Deed)
                self.assertEqual([getattr(made, name) for name in names], lot)
                self.assertEqual(sorted(vars(made)), sorted(names))

    def test_no_kind_is_below_another_one(self):
        for kind, _, _, _ in KINDS:
            self.assertEqual(kind.__bases__, (Deed,))

    def test_one_wrong_box(self):
        for value in integers_outside(0, 2):
            for kind in ONE_BOX:
                assert_raises(self, BadDeed("box"), kind, value)
                assert_raises(self, BadDeed("box"), kind, box=value)
            assert_raises(self, BadDeed("box"), Send, value, 0)
            assert_raises(self, BadDeed("box"), Move, value, 0)

    def test_one_wrong_number_or_target(self):
        for value in integers_outside(0, 5):
            assert_raises(self, BadDeed("number"), Send, 2, value)
            assert_raises(self, BadDeed("number"), Send, number=value, box=0)
            assert_raises(self, BadDeed("number"), Answer, value)
            assert_raises(self, BadDeed("number"), Answer, number=value)
        for value in integers_outside(0, 2):
            for box in range(3):
                assert_raises(self, BadDeed("to"), Move, box, value)
                assert_raises(self, BadDeed("to"), Move, to=value, box=box)
        for box in range(3):
            assert_raises(self, BadDeed("to"), Move, box, box)

    def test_two_wrong_parts_tell_the_box(self):
        for value in integers_outside(0, 5):
            for box in (None, True, -1, 3, "0", [0], Take(0)):
                assert_raises(self, BadDeed("box"), Send, box, value)
                assert_raises(self, BadDeed("box"), Move, box, value)
        assert_raises(self, BadDeed("box"), Move, 3, 3)


class TestDeedsAsked(unittest.TestCase):

    def test_verb(self):
        for kind, names, lot in right_arguments():
            verbs = [verb for other, verb, _, _ in KINDS if other is kind]
            self.assertEqual([kind(*lot).verb()], verbs)

    def test_is_for_any_value(self):
        for kind, verb, sides, names in KINDS:
            deed = kind(*[1, 2][:len(names)])
            for side in ANY + ["Sender", "senders", "sende", "both", ("sender", "receiver")]:
                wanted = isinstance(side, str) and side in sides
                self.assertIs(deed.is_for(side), wanted, (verb, side))
                self.assertIs(deed.is_for(side=side), wanted)

    def test_named_boxes(self):
        for kind in ONE_BOX:
            for box in range(3):
                self.assertEqual(kind(box).named_boxes(), (box,))
        for box in range(3):
            self.assertEqual(Send(box, 5).named_boxes(), (box,))
        self.assertEqual([Answer(number).named_boxes() for number in range(6)], [()] * 6)
        told = [Move(*pair).named_boxes() for pair in [(0, 1), (1, 0), (0, 2), (2, 0), (1, 2), (2, 1)]]
        self.assertEqual(told, [(0, 1), (0, 1), (0, 2), (0, 2), (1, 2), (1, 2)])

    def test_named_numbers(self):
        for number in range(6):
            self.assertEqual(Send(0, number).named_numbers(), (number,))
            self.assertEqual(Answer(number).named_numbers(), (number,))
        for deed in (Take(1), Put(1), Out(1), Move(1, 2), Clear(1)):
            self.assertEqual(deed.named_numbers(), ())

    def test_renumbered(self):
        table = {0: 5, 1: 3, 2: 3, 3: 0, 4: 4, 5: 1}
        kept = dict(table)
        for deed in DEEDS:
            before = str(deed)
            words = before.split(" ")
            if words[0] in ("send", "answer"):
                words[-1] = str(table[int(words[-1])])
            self.assertEqual(str(deed.renumbered(table)), " ".join(words))
            self.assertEqual(deed.renumbered(table=table), Deed.read(" ".join(words)))
            self.assertEqual(str(deed), before)
        self.assertEqual(table, kept)

    def test_renumbered_without_a_number_asks_for_none(self):
        for deed in (Take(1), Put(1), Out(1), Move(1, 2), Clear(1)):
            self.assertEqual(deed.renumbered({}), deed)
        self.assertEqual(Send(1, 3).renumbered({3: 0}), Send(1, 0))

    def test_equality(self):
        again = [kind(*lot) for kind, _, lot in right_arguments()]
        for at, one in enumerate(DEEDS):
            for k, other in enumerate(again):
                self.assertIs(one == other, at == k, (str(one), str(other)))
                self.assertIs(one != other, at != k)
            self.assertTrue(one == one)
            for value in ANY:
                if value not in OBJECTS[:7]:
                    self.assertIs(one == value, False)
                    self.assertIs(value == one, False)


class TestDeedsWritten(unittest.TestCase):

    def test_texts(self):
        wanted = [f"take {box}" for box in range(3)]
        wanted += [f"send {box} {number}" for box in range(3) for number in range(6)]
        wanted += [f"put {box}" for box in range(3)] + [f"out {box}" for box in range(3)]
        wanted += [f"answer {number}" for number in range(6)]
        wanted += ["move 0 1", "move 0 2", "move 1 0", "move 1 2", "move 2 0", "move 2 1"]
        wanted += [f"clear {box}" for box in range(3)]
        self.assertEqual([str(deed) for deed in DEEDS], wanted)

    def test_read_gives_an_equal_deed(self):
        for deed in DEEDS:
            self.assertEqual(Deed.read(str(deed)), deed)
            self.assertIs(type(Deed.read(text=str(deed))), type(deed))


class TestDeedsRead(unittest.TestCase):

    def setUp(self):
        self.whole = {tuple(str(deed).split(" ")) for deed in DEEDS}
        self.begun = {words[:many] for words in self.whole for many in range(1, 4)}

    def wrong_word(self, text):
        return first_wrong_word(text, lambda words: tuple(words) in self.begun, lambda words: tuple(words) in self.whole)

    def test_by_hand(self):
        for text, wrong in [
            ("", 0), (" ", 0), ("take", 1), ("take ", 1), ("take 3", 1), ("take 0 ", 2), ("take  0", 1), (" take 0", 0),
            ("take 01", 1), ("take +1", 1), ("take -0", 1), ("take 0\n", 1), ("send 0", 2), ("send 0 6", 2),
            ("move 1 1", 2), ("move 1", 2), ("answer 6", 1), ("answer 5 0", 2), ("give 0", 0), ("Take 0", 0),
        ]:
            self.assertEqual(self.wrong_word(text), wrong, text)
            assert_read(self, Deed.read, text, wrong)

    def test_texts_with_one_edit(self):
        for deed in DEEDS:
            for text in single_edits(str(deed), VOCABULARY):
                assert_read(self, Deed.read, text, self.wrong_word(text))

    def test_texts_with_two_and_three_edits(self):
        dice = dice_of(7)
        for _ in range(6000):
            text = edited(str(dice.choice(DEEDS)), VOCABULARY, dice.choice([2, 3]), dice)
            assert_read(self, Deed.read, text, self.wrong_word(text))

    def test_what_is_no_string(self):
        assert_reads_only_strings(self, Deed.read)
