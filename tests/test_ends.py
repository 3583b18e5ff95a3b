"""Tests of markedpair.ends."""

import unittest

from markedpair.deeds import Answer, Clear, Move, Out, Put, Send, Take
from markedpair.ends import End, Receiver, Sender
from markedpair.errors import BadEnd, BadRow, BadText, NoRow, TooMany
from markedpair.rows import Row
from tests.support import ANY, RECEIVER, SENDER, assert_raises, assert_read, assert_reads_only_strings
from tests.support import can_begin_row, chance_row, dice_of, edited, first_wrong_word, row_of_words, single_edits

TAKE = Row(0, Take(0), then=0, empty=(0,))
SEND = Row(0, Send(0, 1), then=2)
HEAR = Row(2, Clear(0), then=0, hear=1)
BOTH = Row(5, Move(0, 1), then=6)
FRESH = Row(0, Put(0), Out(0), Answer(0), then=1, hear=0)
NO_ROWS = [value for value in ANY if not isinstance(value, Row)]
MANY = [Row(number // 24, Clear(box), then=number - number // 24 * 24) for box in range(3) for number in range(50)]
VOCABULARY = [
    "0", "1", "2", "3", "6", "24", "-1", "01", "", "hear", "other", "empty", "full", ":", ",", ">", "-", ";", "take", "send",
    "put", "out", "answer", "move", "clear", "x", ";\n",
]


def chance_rows(dice, side, most=4):
    """Unlike rows for a side by chance."""
    rows = []
    for _ in range(dice.randrange(most + 1)):
        row = chance_row(dice, side)
        if row not in rows:
            rows.append(row)
    return rows


class TestEndsMade(unittest.TestCase):

    def test_classes_and_class_values(self):
        self.assertEqual((Sender.__bases__, Receiver.__bases__), ((End,), (End,)))
        self.assertEqual((End.MOST, Sender.MOST, Receiver.MOST), (120, 120, 120))
        self.assertEqual((Sender.SIDE, Receiver.SIDE, SENDER.SIDE, RECEIVER.SIDE), ("sender", "receiver") * 2)

    def test_rows_of_the_other_side(self):
        assert_raises(self, BadRow(0), Receiver, TAKE)
        assert_raises(self, BadRow(2), Receiver, BOTH, FRESH, SEND, TAKE)
        assert_raises(self, BadRow(0), Sender, FRESH)
        assert_raises(self, BadRow(1), Sender, TAKE, FRESH)
        self.assertEqual(len(Sender(BOTH)) + len(Receiver(BOTH)), 2)
        self.assertEqual(len(Receiver(HEAR)), 1)

    def test_equal_rows(self):
        again = Row(0, Take(0), then=0, empty=(0,))
        assert_raises(self, BadRow(1), Sender, TAKE, TAKE)
        assert_raises(self, BadRow(1), Sender, TAKE, again)
        assert_raises(self, BadRow(3), Sender, SEND, TAKE, HEAR, again, SEND)

    def test_values_that_are_no_rows(self):
        for value in NO_ROWS:
            for kind, row in [(Sender, TAKE), (Receiver, FRESH)]:
                assert_raises(self, BadRow(0), kind, value)
                assert_raises(self, BadRow(0), kind, value, row, row)
                assert_raises(self, BadRow(1), kind, row, value, row)

    def test_the_first_of_two_wrong_rows(self):
        assert_raises(self, BadRow(1), Sender, TAKE, None, TAKE)
        assert_raises(self, BadRow(1), Sender, TAKE, TAKE, FRESH)
        assert_raises(self, BadRow(1), Sender, TAKE, FRESH, TAKE)

    def test_as_many_rows_as_are_let(self):
        for kind in (Sender, Receiver):
            self.assertEqual(len(kind(*MANY[:120])), 120)
            assert_raises(self, TooMany("rows", 120), kind, *MANY[:121])
            assert_raises(self, TooMany("rows", 120), kind, *MANY)
            assert_raises(self, BadRow(120), kind, *MANY[:120], None)
            assert_raises(self, BadRow(130), kind, *MANY[:130], MANY[0])
            assert_raises(self, BadRow(3), kind, *MANY[:3], "row", *MANY[3:140])

    def test_arguments_that_change_afterwards(self):
        rows = [TAKE, SEND]
        end = Sender(*rows)
        rows.append(HEAR)
        self.assertEqual(len(end), 2)


class TestEndsAsRows(unittest.TestCase):

    def test_len_and_truth(self):
        self.assertEqual([len(Sender()), len(Receiver()), len(Sender(TAKE, SEND))], [0, 0, 2])
        self.assertEqual([bool(Sender()), bool(Receiver()), bool(SENDER), bool(RECEIVER)], [False, False, True, True])

    def test_iteration(self):
        rows = [TAKE, SEND, HEAR]
        end = Sender(*rows)
        self.assertEqual(list(end), rows)
        self.assertEqual([row for row in end for _ in end], [row for row in rows for _ in rows])
        one, other = iter(end), iter(end)
        self.assertIs(next(one), TAKE)
        self.assertIs(next(one), SEND)
        self.assertIs(next(other), TAKE)
        self.assertIs(next(one), HEAR)
        self.assertEqual(list(other), [SEND, HEAR])
        self.assertEqual(list(Receiver()), [])

    def test_indexes(self):
        end = Sender(*MANY[:120])
        for at in range(120):
            self.assertIs(end[at], MANY[at])
        short = Sender(TAKE, SEND)
        for value in ANY:
            if type(value) is int and 0 <= value < 2:
                self.assertIs(short[value], (TAKE, SEND)[value])
            else:
                assert_raises(self, NoRow(value), short.__getitem__, value)
        assert_raises(self, NoRow(0), Sender().__getitem__, 0)
        assert_raises(self, NoRow(120), end.__getitem__, 120)

    def test_in(self):
        end = Sender(TAKE, SEND, BOTH)
        for row in (TAKE, SEND, BOTH, Row(0, Send(0, 1), then=2), Row.read("5 : move 0 1 > 6")):
            self.assertIs(row in end, True)
        for value in NO_ROWS + [HEAR, FRESH, Row(0, then=0), "0 : send 0 1 > 2", (TAKE,)]:
            self.assertIs(value in end, False)

    def test_at_state(self):
        end = Sender(TAKE, HEAR, SEND, BOTH, Row(0, then=0), Row(1, then=0))
        self.assertEqual(list(end.at_state(0)), [(0, TAKE), (2, SEND), (4, Row(0, then=0))])
        self.assertEqual(list(end.at_state(state=2)), [(1, HEAR)])
        for value in ANY:
            wanted = [(at, row) for at, row in enumerate(end) if type(value) is int and row.state == value]
            self.assertEqual(list(end.at_state(value)), wanted)
        one, other = end.at_state(0), end.at_state(0)
        self.assertEqual([next(one)[0], next(one)[0], next(other)[0], next(one)[0]], [0, 2, 0, 4])
        self.assertIs(iter(one), one)

    def test_equality(self):
        self.assertIs(Sender(TAKE, SEND) == Sender(TAKE, Row(0, Send(0, 1), then=2)), True)
        self.assertIs(Sender(TAKE, SEND) == Sender(SEND, TAKE), False)
        self.assertIs(Sender(TAKE) == Sender(TAKE, SEND), False)
        self.assertIs(Sender(BOTH) == Receiver(BOTH), False)
        self.assertIs(Sender() == Receiver(), False)
        self.assertIs(Receiver() == Receiver(), True)
        end = Receiver(BOTH, FRESH)
        for value in ANY + [(BOTH, FRESH), [BOTH, FRESH], str(end)]:
            self.assertIs(end == value, False)
            self.assertIs(value == end, False)
            self.assertIs(end != value, True)


class TestRowsPutAndTaken(unittest.TestCase):

    def setUp(self):
        self.end = Sender(TAKE, SEND, HEAR)

    def tearDown(self):
        self.assertEqual(list(self.end), [TAKE, SEND, HEAR])
        self.assertEqual(str(self.end), "0 empty 0 : take 0 > 0 ; 0 : send 0 1 > 2 ; 2 hear 1 : clear 0 > 0")

    def test_put_behind(self):
        more = self.end + BOTH
        self.assertIs(type(more), Sender)
        self.assertEqual(list(more), [TAKE, SEND, HEAR, BOTH])
        self.assertIs(type(Receiver() + BOTH), Receiver)
        for value in NO_ROWS + [TAKE, Row(0, Send(0, 1), then=2), FRESH]:
            assert_raises(self, BadRow(3), lambda: self.end + value)
        assert_raises(self, BadRow(0), lambda: Receiver() + TAKE)

    def test_put_where_there_is_no_room(self):
        full = Sender(*MANY[:120])
        assert_raises(self, TooMany("rows", 120), lambda: full + MANY[120])
        assert_raises(self, BadRow(120), lambda: full + MANY[0])
        self.assertEqual(len(full), 120)

    def test_take_out(self):
        less = self.end - Row(0, Send(0, 1), then=2)
        self.assertIs(type(less), Sender)
        self.assertEqual(list(less), [TAKE, HEAR])
        self.assertEqual(list(self.end - TAKE - HEAR - SEND), [])
        for value in NO_ROWS + [BOTH, FRESH, 0, 1]:
            assert_raises(self, NoRow(value), lambda: self.end - value)
        assert_raises(self, NoRow(TAKE), lambda: Sender() - TAKE)

    def test_in_place(self):
        end = self.end
        end += BOTH
        self.assertEqual(list(end), [TAKE, SEND, HEAR, BOTH])
        end -= SEND
        self.assertEqual(list(end), [TAKE, HEAR, BOTH])
        self.assertEqual(list(self.end), [TAKE, SEND, HEAR])

    def test_errors_in_place_leave_the_name(self):
        end = self.end
        for value in (None, TAKE, FRESH, (BOTH,)):
            with self.assertRaises(BadRow):
                end += value
            self.assertIs(end, self.end)
        for value in (None, BOTH, 0):
            with self.assertRaises(NoRow):
                end -= value
            self.assertIs(end, self.end)

    def test_with_row(self):
        self.assertEqual(list(self.end.with_row(1, BOTH)), [TAKE, BOTH, HEAR])
        self.assertEqual(list(self.end.with_row(row=BOTH, at=2)), [TAKE, SEND, BOTH])
        self.assertEqual(self.end.with_row(0, Row(0, Take(0), then=0, empty=(0,))), self.end)
        self.assertIs(type(self.end.with_row(0, BOTH)), Sender)
        assert_raises(self, BadRow(2), self.end.with_row, 2, TAKE)
        assert_raises(self, BadRow(2), self.end.with_row, 0, HEAR)
        for value in NO_ROWS + [FRESH]:
            assert_raises(self, BadRow(1), self.end.with_row, 1, value)

    def test_indexes_that_are_none(self):
        for value in ANY:
            if type(value) is not int or not 0 <= value < 3:
                assert_raises(self, NoRow(value), self.end.with_row, value, BOTH)
                assert_raises(self, NoRow(value), self.end.with_row, value, None)
                assert_raises(self, NoRow(value), self.end.without_row, value)
                assert_raises(self, NoRow(value), self.end.without_row, at=value)

    def test_without_row(self):
        self.assertEqual(list(self.end.without_row(0)), [SEND, HEAR])
        self.assertEqual(list(self.end.without_row(1)), [TAKE, HEAR])
        self.assertEqual(list(self.end.without_row(at=2)), [TAKE, SEND])
        self.assertEqual(list(Receiver(FRESH).without_row(0)), [])
        self.assertIs(type(Receiver(FRESH).without_row(0)), Receiver)

    def test_led_through_changes_beside_a_list_of_texts(self):
        dice = dice_of(29)
        for kind in (Sender, Receiver):
            for _ in range(15):
                self.lead(kind, dice)

    def lead(self, kind, dice):
        end, texts, elder = kind(), [], []
        for _ in range(24):
            elder.append((end, list(texts)))
            row = chance_row(dice, kind.SIDE)
            at = dice.randrange(len(texts)) if texts else 0
            word = dice.choice(["add", "add", "set", "drop", "less"]) if texts else "add"
            if str(row) in texts:
                continue
            if word == "add":
                end, texts = end + row, texts + [str(row)]
            elif word == "set":
                end, texts = end.with_row(at, row), texts[:at] + [str(row)] + texts[at + 1:]
            elif word == "drop":
                end, texts = end.without_row(at), texts[:at] + texts[at + 1:]
            else:
                end, texts = end - Row.read(texts[at]), texts[:at] + texts[at + 1:]
            self.assertEqual([str(row) for row in end], texts)
            self.assertEqual(str(end), " ; ".join(texts) or "-")
        for old, told in elder:
            self.assertEqual([str(row) for row in old], told)


class TestWhatEndsName(unittest.TestCase):

    def test_boxes(self):
        for end, wanted in [
            (Sender(), 1), (Receiver(), 1), (Sender(Row(0, then=0)), 1), (Sender(TAKE), 1), (Sender(TAKE, BOTH), 2),
            (Sender(Row(0, then=0, empty=(1,))), 2), (Sender(Row(0, then=0, full=(2,))), 3),
            (Receiver(Row(0, Out(2), then=0), FRESH), 3), (Receiver(Row(0, Answer(5), then=0)), 1),
            (Sender(Row(0, Move(0, 2), then=0)), 3),
        ]:
            self.assertEqual(end.boxes, wanted)

    def test_states(self):
        self.assertEqual(Sender().states, (0,))
        self.assertEqual(Receiver(BOTH).states, (0, 5, 6))
        self.assertEqual(Sender(Row(23, then=1), Row(7, then=23), Row(0, then=7)).states, (0, 1, 7, 23))

    def test_numbers(self):
        self.assertEqual(Sender().numbers, ())
        self.assertEqual(Receiver(Row(0, then=0, hear="other")).numbers, ())
        self.assertEqual(Sender(SEND, HEAR).numbers, (1,))
        self.assertEqual(Receiver(Row(0, Answer(5), Answer(0), then=0, hear=3), FRESH).numbers, (0, 3, 5))

    def test_by_chance(self):
        dice = dice_of(31)
        for _ in range(200):
            kind = dice.choice([Sender, Receiver])
            rows = chance_rows(dice, kind.SIDE)
            end = kind(*rows)
            self.assertEqual(end.boxes, max([0] + [box for row in rows for box in row.named_boxes()]) + 1)
            self.assertEqual(end.states, tuple(sorted({0} | {row.state for row in rows} | {row.then for row in rows})))
            self.assertEqual(end.numbers, tuple(sorted({number for row in rows for number in row.named_numbers()})))

    def test_renumbered(self):
        end = Receiver.read("0 hear 0 : put 0 , answer 3 > 0 ; 0 hear other : answer 0 > 0 ; 0 : - > 1")
        new = end.renumbered({0: 3, 3: 5})
        self.assertIs(type(new), Receiver)
        wanted = "0 hear 3 : put 0 , answer 5 > 0 ; 0 hear other : answer 3 > 0 ; 0 : - > 1"
        self.assertEqual(str(new), wanted)
        self.assertEqual(str(end.renumbered(table={3: 5, 0: 3})), wanted)
        self.assertEqual(end.renumbered({0: 0, 3: 3}), end)
        self.assertEqual(str(end.renumbered({0: 3, 3: 0}).renumbered({0: 3, 3: 0})), str(end))
        self.assertEqual(Sender().renumbered({}), Sender())

    def test_renumbered_by_what_is_no_such_table(self):
        end = Sender.read("0 : send 0 1 > 0 ; 0 hear 2 : clear 0 > 0")
        for table in ANY + [
            {1: 0}, {2: 0}, {}, {1: 0, 2: 3, 3: 4}, {1: 0, 2: 0}, {1: 2, 2: 6}, {1: -1, 2: 0}, {1: True, 2: 0},
            {1: 0, 2: False}, {True: 0, 2: 3}, {1: 0, "2": 3}, {1: 0, 2: "3"}, {1: 0, 2: None}, {1: 0, 2: [3]},
            {1: 0, (2,): 3}, {0: 1, 2: 3}, [(1, 0), (2, 3)], ((1, 0), (2, 3)), [0, 0, 1], {1: 0, 2: 1, "x": 2},
            {1: 0, 2: (3,)}, {1: {}, 2: {}}, {1: 10 ** 39, 2: 0},
        ]:
            assert_raises(self, BadEnd("table"), end.renumbered, table)
            assert_raises(self, BadEnd("table"), end.renumbered, table=table)
        assert_raises(self, BadEnd("table"), Sender().renumbered, {0: 0})
        assert_raises(self, BadEnd("table"), Sender().renumbered, None)

    def test_a_table_that_changes_afterwards(self):
        end, table = Receiver(FRESH), {0: 4}
        new = end.renumbered(table)
        table[0] = 5
        self.assertEqual(str(new), "0 hear 4 : put 0 , out 0 , answer 4 > 1")
        self.assertEqual(str(end), str(FRESH))


def end_words(words, side):
    """The rows of an end, parted in words, and whether each but the last one is a row of the side."""
    parts = [[]]
    for word in words:
        if word == ";":
            parts.append([])
        else:
            parts[-1].append(word)
    right = True
    for part in parts[:-1]:
        row = row_of_words(part)
        right = right and row is not None and side in row.sides()
    return parts, right


def can_begin_end(words, side):
    """Whether some text of rows of a side begins with these words."""
    if words == ["-"]:
        return True
    parts, right = end_words(words, side)
    return right and (parts[-1] == [] or can_begin_row(parts[-1], side))


def is_whole_end(words, side):
    """Whether these words are rows of a side, unlike or not."""
    parts, right = end_words(words + [";"], side)
    return words == ["-"] or right


class TestEndsWrittenAndRead(unittest.TestCase):

    def wrong_word(self, text, side):
        return first_wrong_word(text, lambda words: can_begin_end(words, side), lambda words: is_whole_end(words, side))

    def assert_end_read(self, kind, text):
        wrong = self.wrong_word(text, kind.SIDE)
        texts = text.split(" ; ")
        again = [at for at in range(len(texts)) if texts[at] in texts[:at]]
        if wrong is None and again:
            assert_raises(self, BadRow(again[0]), kind.read, text)
        else:
            assert_read(self, kind.read, text, wrong)

    def test_texts(self):
        self.assertEqual([str(Sender()), str(Receiver())], ["-", "-"])
        self.assertEqual(str(Sender(TAKE)), "0 empty 0 : take 0 > 0")
        self.assertEqual(str(Receiver(BOTH, FRESH)), "5 : move 0 1 > 6 ; 0 hear 0 : put 0 , out 0 , answer 0 > 1")

    def test_read_gives_an_equal_end(self):
        dice = dice_of(37)
        for kind in (Sender, Receiver):
            for _ in range(200):
                end = kind(*chance_rows(dice, kind.SIDE, 8))
                self.assertEqual(kind.read(str(end)), end)
                self.assertIs(type(kind.read(text=str(end))), kind)
            full = kind(*MANY[:120])
            self.assertEqual(kind.read(str(full)), full)

    def test_told_words_that_cannot_stand(self):
        for kind, text, wrong in [
            (Sender, "-", None), (Sender, "- ; 0 : - > 0", 1), (Sender, "0 : - > 0 ; -", 6), (Sender, "", 0),
            (Sender, "0 : - > 0 ;", 6), (Sender, "0 : - > 0 ; ", 6), (Sender, "0 : - > 0 0 : - > 1", 5),
            (Sender, "; 0 : - > 0", 0), (Sender, "0 : - > 0 ; ; 0 : - > 1", 6), (Sender, "- ", 1), (Sender, " -", 0),
            (Sender, "0 : - > 0 ; 1 : out 0 > 0", 8), (Receiver, "0 : - > 0 ; 1 hear 0 : take 0 > 0", 10),
            (Receiver, "0 : clear 0 , send 0 0 > 0", 5), (Sender, "0 hear 0 : put 0 > 0", 4),
            (Sender, "0 : move 0 1 , answer 0 > 0", 6), (Sender, "0 : - > 0 ; 1 : - > 24", 10),
            (Receiver, "0 : - > 0 , 0 : - > 1", 5), (Receiver, "0 : - > 0\n", 4), (Sender, "- -", 1),
        ]:
            self.assertEqual(self.wrong_word(text, kind.SIDE), wrong, text)
            self.assert_end_read(kind, text)

    def test_texts_with_edits(self):
        dice = dice_of(41)
        for kind in (Sender, Receiver):
            for _ in range(1500):
                end = kind(*chance_rows(dice, kind.SIDE, 3))
                self.assert_end_read(kind, edited(str(end), VOCABULARY, dice.choice([1, 2, 3]), dice))
            for text in ["-", "0 : clear 0 > 0 ; 1 hear 0 : - > 0"]:
                for changed in single_edits(text, VOCABULARY):
                    self.assert_end_read(kind, changed)

    def test_texts_of_the_other_side(self):
        dice = dice_of(43)
        for kind, other in [(Sender, Receiver), (Receiver, Sender)]:
            for _ in range(200):
                self.assert_end_read(kind, str(other(*chance_rows(dice, other.SIDE, 3))))

    def test_equal_rows_only_when_all_is_read(self):
        one = "0 : - > 0"
        assert_raises(self, BadRow(1), Sender.read, f"{one} ; {one}")
        assert_raises(self, BadRow(2), Receiver.read, f"{one} ; 1 : - > 0 ; {one} ; {one}")
        assert_raises(self, BadText(0, 12), Sender.read, f"{one} ; {one} ; x")
        assert_raises(self, BadText(0, 11), Sender.read, f"{one} ; {one} ")

    def test_too_many_rows_only_when_all_is_read(self):
        texts = [str(row) for row in MANY]
        assert_raises(self, TooMany("rows", 120), Sender.read, " ; ".join(texts[:121]))
        assert_raises(self, BadRow(121), Sender.read, " ; ".join(texts[:121] + texts[:1]))
        wrong = len(" ; ".join(texts[:121]).split(" "))
        assert_raises(self, BadText(0, wrong), Sender.read, " ; ".join(texts[:121]) + " x")

    def test_what_is_no_string(self):
        assert_reads_only_strings(self, Sender.read)
        assert_reads_only_strings(self, Receiver.read)
