"""Tests of pictures: their texts, the changes that steps make, what is reached, and what renumbering keeps."""

import unittest

from markedpair.channels import Channel
from markedpair.errors import BadCount, BadLink, BadPicture, TooMany
from markedpair.links import Link
from markedpair.pictures import Change, is_picture, moves, reached, start, unmarked
from markedpair.runs import Run
from markedpair.steps import Act, Hear
from tests import naive
from tests.links import AGAIN, DEAF, ROUGH, SWAPPING, TWICE, chance_link, link_of, one_by_one, two_at_a_time
from tests.support import ANY, assert_raises, dice_of, integers_outside

NO_LINKS = [value for value in ANY if not isinstance(value, Link)]
LINK = link_of(AGAIN)
WIDE = link_of(two_at_a_time(3), "2 loses doubles", "3 overtakes 1")


def told(change):
    """What a Change tells, as the naive program tells it."""
    return str(change.step), change.sign, change.then, change.breaks


def pictures_of(link, dice, many):
    """The pictures of a run by chance, with no mark, one and two."""
    run, found = Run.of(link, []), []
    for _ in range(many):
        found += [run.seen(), run.seen(0), run.seen(1), run.seen(2), run.seen(0, 1), run.seen(1, 2), run.seen(0, 2)]
        lot = list(run.open_steps())
        if not lot:
            break
        run.do(dice.choice(lot))
    return sorted(set(found) - {None})


class TestErrors(unittest.TestCase):

    def test_no_link_comes_ahead_of_all_others(self):
        for value in NO_LINKS:
            assert_raises(self, BadLink("link"), start, value, 7)
            assert_raises(self, BadLink("link"), is_picture, value, 7)
            assert_raises(self, BadLink("link"), lambda link, picture: list(moves(link, picture)), value, 7)
            assert_raises(self, BadLink("link"), reached, value, 7, 0)
            assert_raises(self, BadLink("link"), reached, limit=0, marks=None, link=value)

    def test_marks_and_limit(self):
        for value in integers_outside(0, 2):
            assert_raises(self, BadCount(value), start, LINK, value)
            assert_raises(self, BadCount(value), start, marks=value, link=LINK)
            assert_raises(self, BadCount(value), reached, LINK, value, 0)
        for value in integers_outside(1, 20000):
            assert_raises(self, BadCount(value), reached, LINK, 1, value)
        for value in (0, 20001, -1):
            assert_raises(self, BadCount(value), reached, LINK, 1, limit=value)
        self.assertEqual(len(reached(link_of(DEAF), 0, 20000)), 3)

    def test_no_picture(self):
        for value in ANY + ["1 1 0 . 0. 0 - - -", "1 2 0 . 0. 0 - -", "1 1 0 . 6. 0 - -"]:
            with self.assertRaises(BadPicture) as caught:
                next(moves(LINK, value))
            self.assertEqual(caught.exception.part, "picture")


class TestStart(unittest.TestCase):

    def test_start(self):
        self.assertEqual([start(LINK, marks) for marks in range(3)], [f"{marks} 0 0 - - 0 - -" for marks in range(3)])
        self.assertEqual(start(link=WIDE, marks=2), "2 0 0 -- - 0 - -")


class TestIsPicture(unittest.TestCase):

    def assert_kinds(self, link, right, wrong):
        for text in right:
            self.assertIs(is_picture(link, text), True, text)
        for text in wrong:
            self.assertIs(is_picture(link, text), False, text)

    def test_any_values(self):
        for value in ANY:
            self.assertIs(is_picture(link=LINK, value=value), False)

    def test_words(self):
        self.assert_kinds(
            LINK,
            ["0 0 0 - - 0 - -", "2 2 23 b 5a 23 . 5", "1 1 0 a 0. 0 a 0", "2 2 0 - - 0 - -", "2 1 0 . 0. 0 - 3", "1 0 9 - - 10 . -"],
            ["0 0 0 - - 0 -", "0 0 0 - - 0 - - -", "0 0 0 - - 0 - - ", " 0 0 0 - - 0 - -", "0 0 0 -  - 0 - -", "",
             "0 0 0 - - 0 - -\n", "3 0 0 - - 0 - -", "-1 0 0 - - 0 - -", "01 0 0 - - 0 - -", "1 3 0 - - 0 - -", "1 00 0 - - 0 - -",
             "0 0 24 - - 0 - -", "0 0 +1 - - 0 - -", "0 0 05 - - 0 - -", "0 0 0 - - 24 - -", "0 0 0 - - -0 - -", "0 0 x - - 0 - -",
             "0 0 0 c - 0 - -", "0 0 0 -- - 0 - -", "0 0 0  - 0 - -", "0 0 0 - - 0 .. -", "0 0 0 - - 0  -", "0 0 0 - 6. 0 - -",
             "0 0 0 - 0 0 - -", "0 0 0 - 0- 0 - -", "0 0 0 - .0 0 - -", "0 0 0 - 0.. 0 - -", "0 0 0 -  0 - -", "0 0 0 - 0.0 0 - -",
             "0 0 0 - - 0 - 6", "0 0 0 - - 0 - .", "0 0 0 - - 0 - ", "0 0 0 - - 0 - --", "0 0 0 - -- 0 - -", "0 0 0 - - 0 - 0-",
             "0 0 0 - 0A 0 - -", "\u0660 0 0 - - 0 - -", "0 0 0 - \u0660. 0 - -", "0 0 0 - - 0 - \u0660"],
        )

    def test_each_state_number_and_sign(self):
        for state in range(30):
            self.assertIs(is_picture(LINK, f"0 0 {state} - - 0 - -"), state < 24)
            self.assertIs(is_picture(LINK, f"0 0 0 - - {state} - -"), state < 24)
        for number in range(10):
            self.assertIs(is_picture(LINK, f"0 0 0 - {number}. 0 - -"), number < 6)
            self.assertIs(is_picture(LINK, f"0 0 0 - - 0 - {number}"), number < 6)
        for code in range(32, 127):
            for picture in (f"2 2 0 {chr(code)} - 0 - -", f"2 2 0 - - 0 {chr(code)} -"):
                self.assertIs(is_picture(LINK, picture), chr(code) in "-.ab", picture)
            self.assertIs(is_picture(LINK, f"2 2 0 - 0{chr(code)} 0 - -"), chr(code) in ".ab")

    def test_what_boxes_and_channels_hold(self):
        self.assert_kinds(LINK, ["0 0 0 - 0. 0 - 0"], ["0 0 0 - 0.0. 0 - -", "0 0 0 - - 0 - 00"])
        self.assert_kinds(
            WIDE,
            ["0 0 0 -- - 0 - -", "0 0 0 .- 0.5. 0 . 012", "2 2 0 ab 1a 2 . 000"],
            ["0 0 0 - - 0 - -", "0 0 0 --- - 0 - -", "0 0 0 -- - 0 -- -", "0 0 0 -- 0.1.2. 0 - -", "0 0 0 -- - 0 - 0000"],
        )

    def test_marks_stand_behind_their_takes(self):
        places = ["0 {} - 0 - -", "0 - 0{} 0 - -", "0 - - 0 {} -"]
        for place in places:
            self.assert_kinds(
                LINK,
                [f"{head} {place.format(sign)}" for head, sign in (
                    ("0 0", "."), ("1 0", "."), ("1 1", "."), ("1 1", "a"), ("1 2", "a"),
                    ("2 0", "."), ("2 1", "."), ("2 1", "a"), ("2 2", "."), ("2 2", "a"), ("2 2", "b"),
                )],
                [f"{head} {place.format(sign)}" for head, sign in (
                    ("0 0", "a"), ("0 0", "b"), ("0 1", "."), ("0 1", "a"), ("0 2", "."), ("0 2", "b"),
                    ("1 0", "a"), ("1 0", "b"), ("1 1", "b"), ("1 2", "."), ("1 2", "b"),
                    ("2 0", "a"), ("2 0", "b"), ("2 1", "b"),
                )],
            )
        self.assert_kinds(LINK, ["1 2 0 . 0a 0 - -", "1 2 0 - - 0 a -"], ["1 2 0 a 0b 0 - -", "1 2 0 - - 0 - -"])

    def test_pictures_of_runs(self):
        dice = dice_of(11)
        for _ in range(25):
            link = chance_link(dice, 3)
            found = pictures_of(link, dice, 12)
            for picture in found:
                self.assertIs(is_picture(link, picture), True)
            for _ in range(30):
                self.assert_edit(link, dice.choice(found), dice)

    def assert_edit(self, link, picture, dice):
        """A picture with one sign changed is one exactly if a slow look at its parts says so."""
        at = dice.randrange(len(picture))
        changed = picture[:at] + dice.choice("0126ab.- ") + picture[at + 1:]
        self.assertIs(is_picture(link, changed), looks_right(link, changed), changed)


def looks_right(link, text):
    """Whether a text is a picture, by making the picture again from its parts."""
    try:
        marks, stage, state = naive.read(text)
        assert naive.written(marks, stage, state) == text
        assert marks in (0, 1, 2) and stage in (0, 1, 2) and (marks > 0 or stage == 0)
        assert state["sender"] in range(24) and state["receiver"] in range(24)
        assert len(state["sender boxes"]) == naive.boxes_of(link.sender)
        assert len(state["receiver boxes"]) == naive.boxes_of(link.receiver)
        assert len(state["down"]) <= link.down.capacity and len(state["up"]) <= link.up.capacity
        assert all(number in range(6) for number, _ in state["down"] + state["up"])
        boxed = [sign for sign in state["sender boxes"] + state["receiver boxes"] if sign is not None]
        signs = boxed + [sign for _, sign in state["down"]]
        let = {0: ".", 1: [".", "a.", "a."][stage], 2: [".", "a.", "ab."][stage]}[marks]
        assert all(sign in let for sign in signs)
        assert not (marks == 1 and stage == 2 and "a" not in signs)
    except (AssertionError, ValueError, IndexError):
        return False
    return True


class TestMoves(unittest.TestCase):

    def test_a_change_is_a_paper(self):
        one = Change(Act("sender", 0), ".", "x", False)
        self.assertEqual([one.step, one.sign, one.then, one.breaks], [Act("sender", 0), ".", "x", False])
        self.assertTrue(one == Change(breaks=False, then="x", sign=".", step=Act("sender", 0)) and one)
        for other in (Change(Act("sender", 1), ".", "x", False), Change(Act("sender", 0), None, "x", False),
                      Change(Act("sender", 0), ".", None, False), Change(Act("sender", 0), ".", "x", True), one.step, None):
            self.assertFalse(one == other or other == one)
        for value in ANY:
            self.assertIs(Change(value, value, value, value).then, value)
            self.assertTrue(Change(value, value, value, value) == Change(value, value, value, value))

    def test_it_is_a_generator(self):
        lot = moves(picture=start(LINK, 1), link=LINK)
        self.assertEqual(next(lot), Change(Act("sender", 0), ".", "1 0 0 . - 0 - -", False))
        self.assertEqual([change.sign for change in lot], ["a"])

    def test_the_next_mark_is_taken_behind_the_blank_one(self):
        link = link_of(SWAPPING)
        for picture, signs in (("0 0 0 - - 0 -- -", ["."]), ("1 0 0 - - 0 -- -", [".", "a"]), ("1 1 0 - - 0 -- -", ["."]),
                               ("2 0 0 - - 0 -- -", [".", "a"]), ("2 1 0 - - 0 -- -", [".", "b"]),
                               ("2 2 0 - - 0 -- -", ["."])):
            self.assertEqual([change.sign for change in moves(link, picture)], signs)

    def test_what_breaks_and_what_is_over(self):
        link = link_of(TWICE)
        hear = "receiver 0 place 0"
        for picture, then, breaks in (
            ("1 1 0 - 0a 0 -- -", None, True), ("1 1 0 - 0. 0 -- -", "1 1 0 - - 0 -- -", False),
            ("2 1 0 - 0a 0 -- -", None, False), ("2 2 0 - 0b 0 -- -", None, True), ("0 0 0 - 0. 0 -- -", "0 0 0 - - 0 -- -", False),
        ):
            self.assertIn((hear, None, then, breaks), [told(change) for change in moves(link, picture)])
        swap = link_of(SWAPPING)
        for picture, then, breaks in (
            ("2 2 0 - 1b 0 a- -", None, True), ("2 2 0 - 1a 0 b- -", None, False), ("2 2 0 b 1. 0 a- -", None, False),
            ("2 2 0 a 1. 0 b- -", None, True), ("1 1 0 . 1a 0 .- -", None, False), ("1 1 0 a 1. 0 a- -", "1 2 0 a - 0 -- -", False),
            ("1 2 0 a 1a 0 .- -", None, True), ("1 2 0 - 1. 0 a- -", None, True),
        ):
            self.assertIn((hear.replace("0", "1", 1), None, then, breaks), [told(change) for change in moves(swap, picture)])

    def test_it_is_over_when_the_last_one_is_lost_or_replaced(self):
        link = link_of(AGAIN, "2 loses", "1")
        self.assertIn(("lose down 0", None, None, False), [told(change) for change in moves(link, "1 2 0 - 0a0. 0 - -")])
        self.assertIn(("lose down 0", None, "1 2 0 - 0a 0 - -", False), [told(change) for change in moves(link, "1 2 0 - 0a0a 0 - -")])
        self.assertIn(("sender 2 place 0", None, None, False), [told(change) for change in moves(link, "1 2 0 a - 0 - 0")])
        self.assertIn(("lose down 0", None, "1 1 0 - - 0 - -", False), [told(change) for change in moves(link, "1 1 0 - 0a 0 - -")])
        self.assertIn(("lose down 0", None, "2 2 0 - - 0 - -", False), [told(change) for change in moves(link, "2 2 0 - 0a 0 - -")])

    def test_changes_as_the_naive_program(self):
        dice = dice_of(13)
        for _ in range(40):
            link = chance_link(dice, 3)
            for picture in pictures_of(link, dice, 10):
                self.assertEqual([told(change) for change in moves(link, picture)], naive.moves(link, picture))

    def test_changes_of_pictures_that_no_run_reaches(self):
        dice = dice_of(15)
        for _ in range(300):
            link = chance_link(dice)
            picture = self.any_picture(link, dice)
            if is_picture(link, picture):
                self.assertEqual([told(change) for change in moves(link, picture)], naive.moves(link, picture))

    def any_picture(self, link, dice):
        boxes = ["".join(dice.choice("-.ab") for _ in range(naive.boxes_of(end))) for end in (link.sender, link.receiver)]
        letters = "".join(dice.choice("01") + dice.choice(".ab") for _ in range(dice.randint(0, link.down.capacity)))
        answers = "".join(dice.choice("01") for _ in range(dice.randint(0, link.up.capacity)))
        head = f"{dice.choice('12')} {dice.choice('12')} {dice.choice('01')} {boxes[0]} {letters or '-'}"
        return f"{head} {dice.choice('01')} {boxes[1]} {answers or '-'}"

    def test_steps_come_in_the_order_of_open_steps(self):
        dice = dice_of(17)
        for _ in range(20):
            link = chance_link(dice).with_channels(ROUGH, ROUGH)
            run = Run.of(link, [])
            for _ in range(8):
                lot = [str(step) for step in run.open_steps()]
                self.assertEqual([str(change.step) for change in moves(link, run.seen())], lot)
                if not lot:
                    break
                run.do(dice.choice(list(run.open_steps())))


class TestReached(unittest.TestCase):

    def test_as_the_naive_program(self):
        dice = dice_of(19)
        for _ in range(25):
            link = chance_link(dice, 1)
            for marks in range(3):
                found, _ = naive.levels(link, marks, 400)
                wanted = tuple(sorted(picture for level in found for picture in level))
                if len(wanted) <= 400:
                    self.assertEqual(reached(link, marks), wanted)
                    self.assertEqual(reached(link, marks, len(wanted)), wanted)
                    if len(wanted) > 1:
                        assert_raises(self, TooMany("pictures", len(wanted) - 1), reached, link, marks, len(wanted) - 1)

    def test_limit(self):
        link = link_of(one_by_one(2), "1 loses", "1")
        for marks in range(3):
            many = len(reached(link, marks))
            self.assertEqual(len(reached(limit=many, link=link, marks=marks)), many)
            for limit in (1, many // 2, many - 1):
                assert_raises(self, TooMany("pictures", limit), reached, link, marks, limit)
        big = link_of(two_at_a_time(3), "3 loses doubles", "3 loses doubles")
        assert_raises(self, TooMany("pictures", 5000), reached, big, 1)

    def test_a_breaking_step_leads_nowhere(self):
        for pair, down, marks in ((AGAIN, "1", 1), (AGAIN, "2", 2), (SWAPPING, "2", 2), (TWICE, "1", 1)):
            link = link_of(pair, down)
            table = reached(link, marks)
            changes = [change for picture in table for change in moves(link, picture)]
            self.assertTrue(any(change.breaks for change in changes) or (pair, marks) == (AGAIN, 2))
            self.assertEqual({change.then for change in changes} - {None} | {start(link, marks)}, set(table))

    def test_unmarked_pictures_are_those_without_marks(self):
        for link in (link_of(one_by_one(2), "1 loses", "1"), link_of(two_at_a_time(3), "1", "1 loses")):
            plain = reached(link, 0)
            for marks in (1, 2):
                self.assertLessEqual({unmarked(picture) for picture in reached(link, marks)}, set(plain))

    def test_renumbering_keeps_the_numbers_of_pictures(self):
        link = link_of(two_at_a_time(3), "1 loses", "2")
        other = link.renumbered({0: 4, 1: 0, 2: 5})
        for marks in range(3):
            self.assertEqual(len(reached(link, marks)), len(reached(other, marks)))
            self.assertNotEqual(reached(link, marks), reached(other, marks))


class TestUnmarked(unittest.TestCase):

    def test_unmarked(self):
        for picture, plain in (("0 0 0 - - 0 - -", "0 0 0 - - 0 - -"), ("1 2 3 a.- 0a1. 4 -a 01", "0 0 3 ..- 0.1. 4 -. 01"),
                               ("2 2 22 ba 5b 11 b- -", "0 0 22 .. 5. 11 .- -")):
            self.assertEqual(unmarked(picture=picture), plain)

    def test_of_runs(self):
        dice = dice_of(21)
        for _ in range(20):
            run = Run.of(chance_link(dice), [])
            for _ in range(10):
                for marked in ((), (0,), (1,), (0, 1), (1, 2)):
                    if run.seen(*marked) is not None:
                        self.assertEqual(unmarked(run.seen(*marked)), run.seen())
                lot = list(run.open_steps())
                if lot:
                    run.do(dice.choice(lot))


class TestSeenAndMoves(unittest.TestCase):

    def test_the_picture_behind_a_step_is_one_of_the_changes(self):
        dice = dice_of(23)
        for _ in range(40):
            run = Run.of(chance_link(dice, 3), [])
            for _ in range(12):
                lot = list(run.open_steps())
                if not lot:
                    break
                step = dice.choice(lot)
                for marked in ((), (0,), (1,), (0, 1), (0, 2)):
                    self.assert_one_of_them(run, step, marked)
                run.do(step)

    def assert_one_of_them(self, run, step, marked):
        picture = run.seen(*marked)
        if picture is not None:
            changes = [change for change in moves(run.link, picture) if change.step == step]
            then = run.tried(lambda same: (same.do(step), same.seen(*marked))[1])
            self.assertTrue(then in [change.then for change in changes] or any(change.breaks for change in changes))

    def test_hears_and_acts(self):
        self.assertEqual([change.step for change in moves(LINK, "0 0 0 . 0. 0 - -")], [Hear("receiver", 0)])
        self.assertEqual([change.step for change in moves(LINK, "0 0 0 . - 0 - 0")], [Act("sender", 1), Hear("sender", 2)])
        self.assertEqual(list(moves(link_of(DEAF), "0 0 0 . 0. 0 - -")), [])
        self.assertEqual(list(moves(Link(LINK.sender, LINK.receiver, Channel(1), Channel(1)), "0 0 7 . 0. 9 - -")), [])
