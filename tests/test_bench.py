"""Tests of benches: adds, drops and sets, undo, room, twins and trials."""

import unittest

from markedpair.bench import Bench
from markedpair.deeds import Answer, Clear
from markedpair.ends import Receiver, Sender
from markedpair.errors import BadBench, BadCount, BadRow, NoRow, Nothing, TooMany
from markedpair.rows import Row
from tests.support import ANY, RECEIVER, SENDER, assert_raises, chance_row, dice_of, integers_outside

NO_SENDERS = [value for value in ANY if not isinstance(value, Sender)]
NO_RECEIVERS = [value for value in ANY if not isinstance(value, Receiver)]
NO_SIDES = [value for value in ANY if value not in ("sender", "receiver")]
NO_KEYS = [value for value in ANY if not isinstance(value, tuple) or len(value) != 2]
CLEAR = Row(3, Clear(0), then=1)
ANSWER = Row(0, Answer(0), then=0)
MANY = [Row(number // 24, Clear(box), then=number % 24) for box in range(3) for number in range(50)]


def bench_of():
    """A bench with three rows and one."""
    return Bench(SENDER, RECEIVER)


def shown(bench):
    """All that a bench shows."""
    return [str(end) for end in bench.ends()], len(bench), bool(bench), bench.room


class TestMade(unittest.TestCase):

    def test_any_values(self):
        for value in NO_SENDERS:
            assert_raises(self, BadBench("sender"), Bench, value, None)
            assert_raises(self, BadBench("sender"), Bench, receiver=RECEIVER, sender=value)
        for value in NO_RECEIVERS:
            assert_raises(self, BadBench("receiver"), Bench, SENDER, value)
        bench = Bench(receiver=RECEIVER, sender=SENDER)
        self.assertEqual(bench.ends(), (SENDER, RECEIVER))
        self.assertIsInstance(bench.ends(), tuple)
        self.assertEqual([len(bench), bool(bench), bench.room], [0, False, 120])
        self.assertIs(bool(bench), False)

    def test_equality(self):
        one, other = bench_of(), bench_of()
        self.assertTrue(one == other and other == one)
        one.add("sender", CLEAR)
        self.assertFalse(one == other or other == one)
        one.undo()
        other.make_room(7)
        other["sender", 0] = SENDER[0]
        self.assertTrue(one == other)
        self.assertEqual([len(one), len(other)], [0, 1])
        for value in ANY + [one.ends()]:
            if not isinstance(value, Bench):
                self.assertFalse(one == value or value == one)
        self.assertFalse(one == Bench(SENDER, Receiver()))
        self.assertFalse(one == Bench(Sender(), RECEIVER))

    def test_it_is_not_iterated_over(self):
        self.assertRaises(TypeError, list, bench_of())
        self.assertRaises(TypeError, lambda: CLEAR in bench_of())


class TestChanges(unittest.TestCase):

    def test_sides(self):
        bench = bench_of()
        for value in NO_SIDES:
            assert_raises(self, BadBench("side"), bench.add, value, None)
            assert_raises(self, BadBench("side"), bench.add, row=CLEAR, side=value)
            assert_raises(self, BadBench("side"), bench.drop, value, 7)
            assert_raises(self, BadBench("side"), lambda: bench[value, 7])
            assert_raises(self, BadBench("side"), bench.__setitem__, (value, 7), None)
        bench.make_room(3)
        assert_raises(self, BadBench("side"), bench.add, "none", CLEAR)
        self.assertEqual(shown(bench), ([str(SENDER), str(RECEIVER)], 0, False, 3))

    def test_keys(self):
        bench = bench_of()
        for value in NO_KEYS + [("sender", 0, 0), ["sender", 0], "se"]:
            assert_raises(self, BadBench("key"), lambda: bench[value])
            assert_raises(self, BadBench("key"), bench.__setitem__, value, CLEAR)
        self.assertEqual(len(bench), 0)

    def test_add(self):
        bench = bench_of()
        self.assertEqual(bench.add("sender", CLEAR), 3)
        self.assertEqual(bench.add(row=ANSWER, side="receiver"), 1)
        self.assertEqual(bench.ends(), (SENDER + CLEAR, RECEIVER + ANSWER))
        for value in ANY:
            if not isinstance(value, Row):
                assert_raises(self, BadRow(4), bench.add, "sender", value)
                assert_raises(self, BadRow(2), bench.add, "receiver", value)
        assert_raises(self, BadRow(4), bench.add, "sender", ANSWER)
        assert_raises(self, BadRow(4), bench.add, "sender", SENDER[1])
        assert_raises(self, BadRow(2), bench.add, "receiver", Row(0, Answer(0), then=0))
        self.assertEqual([bench.ends(), len(bench)], [(SENDER + CLEAR, RECEIVER + ANSWER), 2])

    def test_drop(self):
        bench = bench_of()
        for value in integers_outside(0, 2):
            assert_raises(self, NoRow(value), bench.drop, "sender", value)
        for value in integers_outside(0, 0):
            assert_raises(self, NoRow(value), bench.drop, at=value, side="receiver")
        self.assertEqual(len(bench), 0)
        self.assertIs(bench.drop("sender", 1), SENDER[1])
        self.assertEqual(bench["sender", 1], SENDER[2])
        self.assertEqual(bench.drop(at=0, side="receiver"), RECEIVER[0])
        assert_raises(self, NoRow(0), bench.drop, "receiver", 0)
        self.assertEqual([str(end) for end in bench.ends()], [str(SENDER.without_row(1)), "-"])

    def test_items(self):
        bench = bench_of()
        self.assertIs(bench["receiver", 0], RECEIVER[0])
        for value in integers_outside(0, 2):
            assert_raises(self, NoRow(value), lambda: bench["sender", value])
            assert_raises(self, NoRow(value), bench.__setitem__, ("sender", value), None)
        bench["sender", 1] = CLEAR
        self.assertEqual([bench["sender", 1], bench.ends()[0]], [CLEAR, SENDER.with_row(1, CLEAR)])
        for value in ANY:
            if not isinstance(value, Row):
                assert_raises(self, BadRow(2), bench.__setitem__, ("sender", 2), value)
        assert_raises(self, BadRow(0), bench.__setitem__, ("sender", 0), ANSWER)
        # The later one of two equal rows is told.
        assert_raises(self, BadRow(1), bench.__setitem__, ("sender", 0), CLEAR)
        assert_raises(self, BadRow(2), bench.__setitem__, ("sender", 2), CLEAR)
        self.assertEqual(len(bench), 1)
        bench["sender", 1] = CLEAR
        self.assertEqual(len(bench), 2)
        # A row can be taken off the bench and put into another end.
        bench["receiver", 0] = bench["sender", 1]
        self.assertEqual(bench.ends()[1], Receiver(CLEAR))


class TestUndo(unittest.TestCase):

    def test_to_the_beginning_and_beyond(self):
        bench = bench_of()
        assert_raises(self, Nothing(), bench.undo)
        bench.add("sender", CLEAR)
        self.assertEqual([len(bench), bool(bench)], [1, True])
        bench["receiver", 0] = ANSWER
        bench.drop("sender", 0)
        self.assertEqual([len(bench), bool(bench)], [3, True])
        self.assertIs(bool(bench), True)
        self.assertEqual([bench.undo(), bench.ends()], ["drop", (SENDER + CLEAR, Receiver(ANSWER))])
        self.assertEqual([bench.undo(), bench.ends()], ["set", (SENDER + CLEAR, RECEIVER)])
        self.assertEqual([bench.undo(), bench.ends()], ["add", (SENDER, RECEIVER)])
        assert_raises(self, Nothing(), bench.undo)
        self.assertEqual([len(bench), bench.ends()], [0, (SENDER, RECEIVER)])

    def test_led_through_changes_beside_a_list_of_texts(self):
        dice = dice_of(81)
        for _ in range(25):
            bench, stories = bench_of(), []
            for _ in range(30):
                self.step(bench, stories, dice)
            while stories:
                word, ends = stories.pop()
                self.assertEqual(len(bench), len(stories) + 1)
                self.assertEqual(bench.undo(), word)
                self.assertEqual([str(end) for end in bench.ends()], ends)
            assert_raises(self, Nothing(), bench.undo)

    def step(self, bench, stories, dice):
        """A change by chance; its word and the texts ahead of it are noted."""
        ahead, side = [str(end) for end in bench.ends()], dice.choice(["sender", "receiver"])
        end = bench.ends()[side == "receiver"]
        row, kind = chance_row(dice, side), dice.randrange(5)
        texts = [str(each) for each in end]
        if kind < 2 and str(row) not in texts:
            self.assertEqual(bench.add(side, row), len(texts))
            stories.append(("add", ahead))
            texts.append(str(row))
        elif kind == 2 and texts:
            at = dice.randrange(len(texts))
            self.assertEqual(str(bench.drop(side, at)), texts.pop(at))
            stories.append(("drop", ahead))
        elif kind == 3 and texts and str(row) not in texts:
            at = dice.randrange(len(texts))
            bench[side, at] = row
            texts[at] = str(row)
            stories.append(("set", ahead))
        elif kind == 4 and stories:
            word, texts_ahead = stories.pop()
            self.assertEqual(bench.undo(), word)
            self.assertEqual([str(each) for each in bench.ends()], texts_ahead)
            return
        self.assertEqual([str(each) for each in bench.ends()[side == "receiver"]], texts)


class TestRoom(unittest.TestCase):

    def test_any_values(self):
        bench = bench_of()
        for value in integers_outside(3, 120):
            assert_raises(self, BadCount(value), bench.make_room, value)
            assert_raises(self, BadCount(value), bench.make_room, number=value)
            with self.assertRaises(BadCount) as caught:
                bench.room = value
            self.assertIs(caught.exception.value, value)
        self.assertEqual(bench.room, 120)
        for value in (3, 120, 77):
            self.assertIsNone(bench.make_room(value))
            self.assertEqual(bench.room, value)
            bench.room = max(3, value - 3)
            self.assertEqual(bench.room, max(3, value - 3))

    def test_the_longer_end_counts(self):
        bench = Bench(Sender(), Receiver(*MANY[:5]))
        assert_raises(self, BadCount(4), bench.make_room, 4)
        bench.make_room(5)
        bench.drop("receiver", 0)
        bench.make_room(4)
        Bench(Sender(), Receiver()).make_room(0)

    def test_full_ends(self):
        bench = bench_of()
        bench.room = 3
        for value in (None, CLEAR, SENDER[0]):
            assert_raises(self, TooMany("rows", 3), bench.add, "sender", value)
        self.assertEqual(bench.add("receiver", ANSWER), 1)
        bench.room = 4
        self.assertEqual(bench.add("sender", CLEAR), 3)
        assert_raises(self, TooMany("rows", 4), bench.add, "sender", CLEAR)
        full = Bench(Sender(*MANY[:119]), Receiver())
        self.assertEqual(full.add("sender", MANY[119]), 119)
        assert_raises(self, TooMany("rows", 120), full.add, "sender", MANY[120])
        full["sender", 0] = MANY[120]
        self.assertEqual(full["sender", 0], MANY[120])

    def test_undo_does_not_take_it_back_and_can_go_beyond_it(self):
        bench = bench_of()
        bench.drop("sender", 0)
        bench.make_room(2)
        self.assertEqual(len(bench), 1)
        self.assertEqual(bench.undo(), "drop")
        self.assertEqual([bench.room, bench.ends()], [2, (SENDER, RECEIVER)])
        assert_raises(self, TooMany("rows", 2), bench.add, "sender", CLEAR)
        assert_raises(self, BadCount(2), bench.make_room, 2)
        bench["sender", 0] = CLEAR
        bench.drop("sender", 0)
        assert_raises(self, TooMany("rows", 2), bench.add, "sender", CLEAR)
        bench.drop("sender", 0)
        self.assertEqual(bench.add("sender", CLEAR), 1)


class TestTwins(unittest.TestCase):

    def test_a_twin_goes_its_own_way(self):
        bench = bench_of()
        bench.add("sender", CLEAR)
        bench.room = 9
        twin = bench.twin()
        self.assertIsInstance(twin, Bench)
        self.assertIsNot(twin, bench)
        self.assertEqual(shown(twin), shown(bench))
        ahead = shown(bench)
        twin.drop("sender", 0)
        twin.room = 5
        self.assertEqual(shown(bench), ahead)
        behind = shown(twin)
        self.assertEqual(bench.undo(), "add")
        self.assertEqual(shown(twin), behind)
        self.assertEqual([twin.undo(), twin.undo(), twin.ends()], ["drop", "add", (SENDER, RECEIVER)])
        assert_raises(self, Nothing(), twin.undo)


class TestTrials(unittest.TestCase):

    def setUp(self):
        self.bench = bench_of()
        self.bench.add("sender", CLEAR)
        self.bench.room = 50
        self.ahead = shown(self.bench)

    def test_all_is_as_it_was(self):
        with self.bench.trial() as same:
            self.assertIs(same, self.bench)
            same.drop("sender", 0)
            same["receiver", 0] = ANSWER
            same.room = 7
            self.assertEqual([len(same), same.room], [3, 7])
        self.assertEqual(shown(self.bench), self.ahead)
        self.assertEqual(self.bench.undo(), "add")

    def test_what_was_there_ahead_can_be_taken_back_inside(self):
        with self.bench.trial() as same:
            self.assertEqual(same.undo(), "add")
            assert_raises(self, Nothing(), same.undo)
        self.assertEqual(shown(self.bench), self.ahead)

    def test_nested(self):
        with self.bench.trial() as same:
            same.drop("sender", 0)
            inner = shown(same)
            with same.trial():
                same.undo()
                same.undo()
                same.make_room(3)
                with same.trial() as third:
                    third.drop("receiver", 0)
                self.assertEqual(same.room, 3)
                self.assertEqual(len(same.ends()[1]), 1)
            self.assertEqual(shown(same), inner)
        self.assertEqual(shown(self.bench), self.ahead)

    def test_one_trial_used_several_times(self):
        trial = self.bench.trial()
        with trial:
            self.bench.drop("sender", 0)
            inner = shown(self.bench)
            with trial:
                self.bench.drop("sender", 0)
            self.assertEqual(shown(self.bench), inner)
        self.assertEqual(shown(self.bench), self.ahead)
        self.bench.drop("sender", 0)
        with trial:
            self.bench.undo()
        self.assertEqual(shown(self.bench), inner)

    def test_an_error_goes_on(self):
        with self.assertRaises(ZeroDivisionError):
            with self.bench.trial() as same:
                with same.trial():
                    same.drop("sender", 0)
                    same.room = 20
                    1 // 0
        self.assertEqual(shown(self.bench), self.ahead)
        with self.assertRaises(NoRow):
            with self.bench.trial() as same:
                same.drop("sender", 0)
                same.drop("sender", 9)
        self.assertEqual(shown(self.bench), self.ahead)

    def test_tried(self):
        def work(same):
            self.assertIs(same, self.bench)
            same.undo()
            return [same.add("receiver", ANSWER), len(same)]

        self.assertEqual(self.bench.tried(work), [1, 1])
        self.assertEqual(shown(self.bench), self.ahead)
        self.assertEqual(self.bench.tried(work=lambda same: (same.drop("sender", 0), same.tried(lambda again: len(again)))[1]), 2)
        self.assertIsNone(self.bench.tried(lambda same: same.make_room(9)))
        with self.assertRaises(KeyError):
            self.bench.tried(lambda same: {}[same.add("receiver", ANSWER)])
        self.assertEqual(shown(self.bench), self.ahead)

    def test_a_twin_made_in_a_trial_stays(self):
        with self.bench.trial() as same:
            same.drop("sender", 0)
            twin = same.twin()
        self.assertEqual([len(twin.ends()[0]), len(twin)], [3, 2])
        self.assertEqual(shown(self.bench), self.ahead)
