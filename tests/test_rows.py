"""Tests of markedpair.rows."""

import unittest

from markedpair.deeds import Answer, Clear, Move, Out, Put, Send, Take
from markedpair.errors import BadRow
from markedpair.rows import Row
from tests.support import ANY, DEEDS, OBJECTS, RECEIVERS_DEEDS, SENDERS_DEEDS, assert_raises, assert_read
from tests.support import assert_reads_only_strings, can_begin_row, chance_row, dice_of, edited, first_wrong_word
from tests.support import integers_outside, row_of_words, single_edits

VOCABULARY = [
    "0", "1", "2", "3", "5", "6", "23", "24", "-1", "01", "+1", "-0", "", "hear", "other", "empty", "full", ":", ",", ">",
    "-", "take", "send", "put", "out", "answer", "move", "clear", ";", "x", "0\n",
]
BAD_STATES = integers_outside(0, 23)
BAD_DEEDS = (
    [[value] for value in ANY if value not in DEEDS]
    + [[Take(0), Take(0)], [Take(0), Send(0, 0), Take(1)], [Take(0), Put(0)], [Send(0, 0), Out(0)]]
    + [[Move(0, 1), Answer(0), Send(0, 0)], [Clear(0)] * 9, [Out(0)] * 12, [Take(0), None], [None, Take(0)]]
    + [[Take(0), Take(1), Put(0)], [(Take(0),)], [[Take(0)]], [Take(0), "clear 0"]]
)
BAD_HEARS = [value for value in integers_outside(0, 5) if value is not None and value != "other"] + ["Other", ["other"]]
BAD_BOXES = (
    # By repr, as (0, 1) equals (0, True).
    [value for value in ANY if repr(value) not in ["()", "(0,)", "(1,)", "(0, 1)", "(0, 1, 2)"]]
    + [(3,), (-1,), (0, 3), (1, 0), (2, 1), (0, 0), (2, 2), (0, 1, 1), (0, 2, 1), (True,), (False, 1), ("0",), [0], [1, 2]]
    + [[], (0, None), ((0,),), (0, 1, 2, 3), {0: 1}, "0", 0]
)


class TestRowsMade(unittest.TestCase):

    def test_defaults(self):
        row = Row(3, then=4)
        self.assertEqual(vars(row) | {"_key": None}, {
            "state": 3, "deeds": (), "then": 4, "hear": None, "empty": (), "full": (), "_key": None,
        })

    def test_attributes(self):
        dice = dice_of(3)
        for many in range(9):
            deeds = [dice.choice(RECEIVERS_DEEDS) for _ in range(many)]
            row = Row(23, *deeds, then=0, hear="other", empty=(0, 2), full=(1,))
            self.assertEqual(row.deeds, tuple(deeds))
            self.assertIs(type(row.deeds), tuple)
            self.assertEqual((row.state, row.then, row.hear, row.empty, row.full), (23, 0, "other", (0, 2), (1,)))
        named = Row(state=0, then=23, hear=5, empty=(), full=(0, 1, 2))
        self.assertEqual((named.state, named.then, named.hear, named.empty, named.full), (0, 23, 5, (), (0, 1, 2)))

    def test_all_bounds_that_are_let(self):
        for state in range(24):
            self.assertEqual((Row(state, then=0).state, Row(0, then=state).then), (state, state))
        for hear in (None, "other", *range(6)):
            self.assertEqual(Row(0, then=0, hear=hear).hear, hear)
        for boxes in [(), (0,), (1,), (2,), (0, 1), (0, 2), (1, 2), (0, 1, 2)]:
            self.assertEqual(Row(0, then=0, empty=boxes).empty, boxes)
            self.assertEqual(Row(0, then=0, full=boxes).full, boxes)
        self.assertEqual(len(Row(0, *[Clear(0)] * 8, then=0).deeds), 8)
        self.assertEqual(len(Row(0, Take(0), *[Send(0, 0)] * 7, then=0).deeds), 8)

    def test_wrong_states(self):
        for value in BAD_STATES:
            assert_raises(self, BadRow("state"), Row, value, then=0)
            assert_raises(self, BadRow("state"), Row, state=value, then=0)
            assert_raises(self, BadRow("then"), Row, 0, then=value)

    def test_wrong_deeds(self):
        for deeds in BAD_DEEDS:
            assert_raises(self, BadRow("deeds"), Row, 0, *deeds, then=0, hear=0)

    def test_wrong_hear(self):
        for value in BAD_HEARS:
            assert_raises(self, BadRow("hear"), Row, 0, then=0, hear=value)
        for deeds in [[Put(0)], [Clear(1), Put(2)], [Out(0), Put(0), Out(0)]]:
            assert_raises(self, BadRow("hear"), Row, 0, *deeds, then=0)
            assert_raises(self, BadRow("hear"), Row, 0, *deeds, then=0, hear=None)

    def test_wrong_boxes(self):
        for value in BAD_BOXES:
            assert_raises(self, BadRow("empty"), Row, 0, then=0, empty=value)
            assert_raises(self, BadRow("full"), Row, 0, then=0, full=value)

    def test_a_box_both_empty_and_full(self):
        for empty in [(0,), (0, 1), (0, 2), (0, 1, 2)]:
            for full in [(0,), (0, 1), (0, 2), (0, 1, 2)]:
                assert_raises(self, BadRow("full"), Row, 0, then=0, empty=empty, full=full)
        assert_raises(self, BadRow("full"), Row, 0, then=0, empty=(1,), full=(0, 1))

    def test_two_wrong_parts_in_order(self):
        dice = dice_of(5)
        lots = {"state": BAD_STATES, "deeds": BAD_DEEDS, "then": BAD_STATES, "hear": BAD_HEARS, "empty": BAD_BOXES,
                "full": BAD_BOXES}
        parts = list(lots)
        for first in range(6):
            for second in range(first + 1, 6):
                for _ in range(60):
                    told = {"state": 0, "deeds": [], "then": 0, "hear": 0, "empty": (), "full": ()}
                    for part in (parts[first], parts[second]):
                        told[part] = dice.choice(lots[part])
                    state, deeds = told.pop("state"), told.pop("deeds")
                    assert_raises(self, BadRow(parts[first]), Row, state, *deeds, **told)

    def test_arguments_that_change_afterwards(self):
        deeds = [Take(0), Send(0, 0)]
        row = Row(0, *deeds, then=0)
        deeds.append(Clear(0))
        self.assertEqual(str(row), "0 : take 0 , send 0 0 > 0")


class TestRowsInOrder(unittest.TestCase):

    def assert_ascending(self, rows):
        for at, one in enumerate(rows):
            for k, other in enumerate(rows):
                self.assertIs(one < other, at < k, (str(one), str(other)))
                self.assertIs(one > other, at > k, (str(one), str(other)))
                self.assertIs(one == other, at == k, (str(one), str(other)))
                self.assertIs(one != other, at != k)
        mixed = list(rows)
        dice_of(9).shuffle(mixed)
        self.assertEqual(sorted(mixed), rows)

    def test_states(self):
        self.assert_ascending([Row(state, Clear(0), then=23 - state) for state in range(24)])

    def test_hear(self):
        self.assert_ascending([Row(0, then=0, hear=hear) for hear in (None, 0, 1, 2, 3, 4, 5, "other")])

    def test_boxes(self):
        lots = [(), (0,), (0, 1), (0, 1, 2), (0, 2), (1,), (1, 2), (2,)]
        self.assert_ascending([Row(0, then=0, empty=boxes) for boxes in lots])
        self.assert_ascending([Row(0, then=0, full=boxes) for boxes in lots])

    def test_deeds_by_their_texts(self):
        self.assert_ascending([
            Row(0, *deeds, then=0, hear=1) for deeds in [
                [], [Answer(0)], [Answer(0), Out(2)], [Answer(1)], [Clear(0)], [Clear(0), Clear(0)],
                [Clear(0), Move(0, 1)], [Clear(1)], [Move(0, 1)], [Move(0, 2)], [Move(2, 0)], [Out(0)], [Put(0)],
                [Send(0, 0)], [Send(0, 1)], [Send(1, 0)], [Take(0)],
            ]
        ])

    def test_then(self):
        self.assert_ascending([Row(4, Take(0), then=then) for then in range(24)])

    def test_the_parts_one_after_another(self):
        self.assert_ascending([
            Row(0, then=23, full=(2,)), Row(0, Take(0), then=0, empty=(0,), full=(1,)),
            Row(0, Clear(0), then=9, empty=(1,)), Row(0, Take(0), then=3, empty=(1,)),
            Row(0, then=0, empty=(1,), full=(0,)), Row(0, then=0, hear=2), Row(0, then=1, hear=2),
            Row(0, then=0, hear="other"), Row(1, then=0),
        ])

    def test_equal_rows_made_anew(self):
        dice = dice_of(11)
        for _ in range(300):
            one = chance_row(dice)
            other = Row(one.state, *one.deeds, then=one.then, hear=one.hear, empty=one.empty, full=one.full)
            self.assertIs(one == other, True)
            self.assertIs(one < other, False)
            self.assertIs(other < one, False)

    def test_values_of_other_kinds(self):
        row = Row(7, Take(2), then=7)
        for value in ANY:
            self.assertIs(row == value, False)
            self.assertIs(value == row, False)
            self.assertIs(row != value, True)


class TestWhatRowsName(unittest.TestCase):

    def test_sides(self):
        for deed in DEEDS:
            wanted = tuple(side for side, lot in [("sender", SENDERS_DEEDS), ("receiver", RECEIVERS_DEEDS)] if deed in lot)
            self.assertEqual(Row(0, deed, then=0, hear=0).sides(), wanted)
            self.assertEqual(Row(0, Clear(0), deed, Move(1, 2), then=0, hear=0).sides(), wanted)
        self.assertEqual(Row(0, then=0).sides(), ("sender", "receiver"))
        self.assertEqual(Row(0, Clear(0), Move(0, 1), then=0).sides(), ("sender", "receiver"))

    def test_named_boxes(self):
        for row, wanted in [
            (Row(0, then=0), ()), (Row(0, then=0, empty=(2,)), (2,)), (Row(0, then=0, full=(1,)), (1,)),
            (Row(0, Take(2), then=0, empty=(1,), full=(0,)), (0, 1, 2)), (Row(0, Move(2, 0), then=0), (0, 2)),
            (Row(0, Answer(2), then=0), ()), (Row(0, Send(1, 2), Clear(1), then=0, full=(1,)), (1,)),
            (Row(0, Put(1), Out(0), then=0, hear=2), (0, 1)),
        ]:
            self.assertEqual(row.named_boxes(), wanted)

    def test_named_numbers(self):
        for row, wanted in [
            (Row(0, then=0), ()), (Row(0, then=0, hear=3), (3,)), (Row(0, then=0, hear="other"), ()),
            (Row(5, Send(1, 4), Send(2, 0), then=3, hear=2), (0, 2, 4)), (Row(0, Answer(5), Answer(5), then=0), (5,)),
            (Row(0, Answer(1), then=0, hear="other"), (1,)), (Row(0, Answer(1), then=0, hear=1, full=(2,)), (1,)),
        ]:
            self.assertEqual(row.named_numbers(), wanted)

    def test_takes(self):
        self.assertIs(Row(0, Take(0), then=0).takes, True)
        self.assertIs(Row(0, Send(0, 1), Take(1), then=0, hear=0).takes, True)
        for deed in DEEDS[3:]:
            self.assertIs(Row(0, deed, then=0, hear=0).takes, False)
        self.assertIs(Row(0, then=0).takes, False)

    def test_renumbered(self):
        table = {0: 3, 1: 2, 2: 0, 3: 1, 4: 5, 5: 5}
        dice = dice_of(13)
        for _ in range(300):
            row = chance_row(dice)
            before = str(row)
            hear = table[row.hear] if isinstance(row.hear, int) else row.hear
            deeds = [deed.renumbered(table) for deed in row.deeds]
            wanted = Row(row.state, *deeds, then=row.then, hear=hear, empty=row.empty, full=row.full)
            self.assertEqual(row.renumbered(table), wanted)
            self.assertEqual(str(row.renumbered(table=table)), str(wanted))
            self.assertEqual(str(row), before)
        self.assertEqual(table, {0: 3, 1: 2, 2: 0, 3: 1, 4: 5, 5: 5})

    def test_renumbered_by_hand(self):
        for text, table, wanted in [
            ("3 hear 3 empty 2 : put 2 , answer 3 > 3", {3: 0}, "3 hear 0 empty 2 : put 2 , answer 0 > 3"),
            ("0 hear other : answer 1 > 0", {1: 4}, "0 hear other : answer 4 > 0"),
            ("0 : move 0 1 > 1", {}, "0 : move 0 1 > 1"),
            ("0 hear 1 : send 0 2 , send 1 1 > 0", {1: 2, 2: 1}, "0 hear 2 : send 0 1 , send 1 2 > 0"),
        ]:
            self.assertEqual(str(Row.read(text).renumbered(table)), wanted)


class TestRowsWritten(unittest.TestCase):

    def test_texts_by_hand(self):
        for row, text in [
            (Row(0, then=0), "0 : - > 0"),
            (Row(23, then=1, hear="other"), "23 hear other : - > 1"),
            (Row(1, Take(0), then=2, empty=(0,)), "1 empty 0 : take 0 > 2"),
            (Row(1, Put(2), Out(2), then=2, hear=5, empty=(0, 2), full=(1,)),
             "1 hear 5 empty 0 2 full 1 : put 2 , out 2 > 2"),
            (Row(9, Clear(0), Clear(1), Clear(2), then=10, full=(0, 1, 2)),
             "9 full 0 1 2 : clear 0 , clear 1 , clear 2 > 10"),
            (Row(9, *[Answer(1)] * 8, then=10), "9 : " + " , ".join(["answer 1"] * 8) + " > 10"),
        ]:
            self.assertEqual(str(row), text)
            self.assertEqual(Row.read(text), row)

    def test_read_gives_an_equal_row(self):
        dice = dice_of(17)
        for _ in range(1500):
            row = chance_row(dice)
            again = Row.read(str(row))
            self.assertEqual(again, row)
            self.assertEqual(vars(again), vars(row))
            self.assertEqual(Row.read(text=str(row)), row)


class TestRowsRead(unittest.TestCase):

    def wrong_word(self, text):
        return first_wrong_word(text, can_begin_row, lambda words: row_of_words(words) is not None)

    def test_told_words_that_cannot_stand(self):
        eight = " , ".join(["answer 1"] * 8)
        for text, wrong in [
            (f"0 : {eight} , answer 1 > 0", 25), (f"0 : {eight} > 0", None), (f"0 : {eight}", 25),
            ("0 empty 0 1 2 full 0 : - > 0", 5), ("0 empty 0 1 2 full", 5), ("0 empty 0 1 2 : - > 0", None),
            ("0 : take 0 , take 0 > 0", 5), ("0 : take 0 , clear 0 , take 1 > 0", 8),
            ("0 : send 0 0 , out 0 > 0", 6), ("0 : out 0 , send 0 0 > 0", 5), ("0 hear 0 : take 0 , put 0 > 0", 7),
            ("0 : move 0 1 , take 0 , answer 1 > 0", 9), ("0 : clear 0 , put 0 > 0", 5), ("0 : put 0 > 0", 2),
            ("0 hear other : put 0 > 0", None), ("0 empty 1 0 : - > 0", 3), ("0 empty 1 1 : - > 0", 3),
            ("0 full 2 1 : - > 0", 3), ("0 empty 1 full 1 : - > 0", 4), ("0 empty 1 full 0 1 : - > 0", 5),
            ("0 empty 0 2 full 1 2 : - > 0", 6), ("0 full 0 empty 1 : - > 0", 3), ("0 empty : - > 0", 2),
            ("0 empty full 0 : - > 0", 2), ("0 empty 3 : - > 0", 2), ("0 empty 0 1 2 2 : - > 0", 5),
            ("0 empty 0 hear 1 : - > 0", 3), ("0 hear 0 hear 1 : - > 0", 3), ("0 hear : - > 0", 2),
            ("0 hear 6 : - > 0", 2), ("0 hear 00 : - > 0", 2), ("00 : - > 0", 0), ("24 : - > 0", 0), ("0 : - > 24", 4),
            ("0 : > 0", 2), ("0 : - - > 0", 3), ("0 : - , take 0 > 0", 3), ("0 : take 0 , - > 0", 5),
            ("0 : take 0 , > 0", 5), ("0 : take 0 take 1 > 0", 4), ("0 : take > 0", 3), ("0 : move 1 1 > 0", 4),
            ("0 : - > 0 0", 5), ("0 : - > 0 ", 5), (" 0 : - > 0", 0), ("0 :  - > 0", 2), ("0 : - >", 4),
            ("", 0), (" ", 0), ("0", 1), ("0 ", 1), ("0 hear", 2), ("0 : send 0", 4), ("0 : - > 0\n", 4), ("-", 0),
            ("0 : - > -0", 4), ("+0 : - > 0", 0), ("0\n: - > 0", 0),
        ]:
            self.assertEqual(self.wrong_word(text), wrong, text)
            assert_read(self, Row.read, text, wrong)

    def test_texts_with_one_edit(self):
        dice = dice_of(19)
        texts = ["0 hear 0 : put 0 , out 0 , answer 0 > 1", "0 empty 0 : take 0 > 0", "1 hear 0 : - > 1",
                 "2 hear other empty 0 2 full 1 : move 1 0 , clear 0 > 3"] + [str(chance_row(dice)) for _ in range(6)]
        for text in texts:
            for changed in single_edits(text, VOCABULARY):
                assert_read(self, Row.read, changed, self.wrong_word(changed))

    def test_texts_with_one_to_three_edits(self):
        dice = dice_of(23)
        for _ in range(4000):
            text = edited(str(chance_row(dice)), VOCABULARY, dice.choice([1, 2, 3]), dice)
            assert_read(self, Row.read, text, self.wrong_word(text))

    def test_what_is_no_string(self):
        assert_reads_only_strings(self, Row.read)
        for value in OBJECTS:
            assert_read(self, Row.read, str(value).replace("\n", " "), self.wrong_word(str(value).replace("\n", " ")))
