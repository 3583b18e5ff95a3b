"""Tests of the texts of links, steps and verdicts: written, read back, and the line and the word of what is wrong."""

import unittest

from markedpair.channels import channels_of
from markedpair.ends import Receiver, Sender
from markedpair.errors import BadLink, BadRow, BadRun, BadText, TooMany
from markedpair.families import all_so_far
from markedpair.judged import Broken, Kept, judge
from markedpair.links import Link
from markedpair.look_judged import shows_judged
from markedpair.reader import read_link, read_steps, read_verdict
from markedpair.runs import Run
from markedpair.steps import Act, Hear, Lose, Step
from markedpair.texts import link_text, steps_text, verdict_text
from tests.links import AGAIN, chance_channel, chance_link, link_of, one_by_one
from tests.support import ANY, assert_raises, can_begin_row, chance_row, dice_of, row_of_words

LINK = link_of(AGAIN, "2 loses overtakes 1", "1 doubles")
LINK_LINES = [
    "down 2 loses overtakes 1", "up 1 doubles", "sender 0 empty 0 : take 0 > 0", "sender 0 full 0 : send 0 0 > 0",
    "sender 0 hear 0 full 0 : clear 0 > 0", "receiver 0 hear 0 : put 0 , out 0 , answer 0 > 0",
]
STEPS = [Act("sender", 3), Hear("receiver", 119, 2, True), Lose("up", 0), Hear("sender", 0), Act("receiver", 0)]
STEP_LINES = ["sender 3", "receiver 119 place 2 stays", "lose up 0", "sender 0 place 0", "receiver 0"]
KEPT = Kept(("1 0 0 - - 0 - -", "a b c d e f g h"), ("2 0 0 - - 0 - -",))
KEPT_LINES = ["kept", "one 1 0 0 - - 0 - -", "one a b c d e f g h", "two 2 0 0 - - 0 - -"]

CHANNEL_WORDS = [str(channel).split(" ") for capacity in (1, 2, 3) for channel in channels_of(capacity)]
STEP_WORDS = [[side, str(at)] + tail for side in ("sender", "receiver") for at in range(120)
              for tail in [[]] + [["place", str(place)] + stays for place in range(3) for stays in ([], ["stays"])]]
STEP_WORDS += [["lose", way, str(place)] for way in ("down", "up") for place in range(3)]
STEPS_BEGUN = {tuple(words[:many]) for words in STEP_WORDS for many in range(1, 6)}
STEPS_WHOLE = {tuple(words) for words in STEP_WORDS}
VOCABULARY = [
    "", "-", "0", "1", "3", "6", "24", "120", "down", "up", "sender", "receiver", "lose", "place", "stays", "loses", "doubles",
    "overtakes", "kept", "broken", "one", "two", "hear", "other", "empty", "full", ":", ",", ">", "take", "put", "send", "out", "x",
]


def channel_words(way):
    """The judge of the line of a channel: whether words can begin it, and whether they are it."""
    def can_begin(words):
        return words[0] == way and (len(words) == 1 or any(words[1:] == told[:len(words) - 1] for told in CHANNEL_WORDS))

    return can_begin, lambda words: words[0] == way and words[1:] in CHANNEL_WORDS


def row_words(sides):
    """The judge of the line of a row of one of these sides."""
    def can_begin(words):
        return words[0] in sides and (len(words) == 1 or can_begin_row(words[1:], words[0]))

    def is_whole(words):
        row = row_of_words(words[1:])
        return words[0] in sides and row is not None and words[0] in row.sides()

    return can_begin, is_whole


def fixed_words(*texts):
    """The judge of a line that is one of these."""
    lot = [text.split(" ") for text in texts]
    return lambda words: any(words == told[:len(words)] for told in lot), lambda words: words in lot


def picture_words(heads):
    """The judge of a line of a picture behind one of these words."""
    return lambda words: words[0] in heads and len(words) <= 9 and "" not in words, lambda words: len(words) == 9


def step_words():
    """The judge of the line of a step."""
    return lambda words: tuple(words) in STEPS_BEGUN, lambda words: tuple(words) in STEPS_WHOLE


def link_judge(at, lines):
    """The judge of the line of a link with this index, None if none can stand."""
    if at < 2:
        return channel_words(("down", "up")[at])
    receivers = any(line.startswith("receiver") for line in lines[2:at])
    return row_words(("receiver",) if receivers else ("sender", "receiver"))


def steps_judge(at, lines):
    """The judge of the line of a text of steps."""
    if at == 0 and lines[0].split(" ")[0] == "-":
        return fixed_words("-")
    return None if at > 0 and lines[0] == "-" else step_words()


def verdict_judge(at, lines):
    """The judge of the line of a verdict."""
    if at == 0:
        return fixed_words("kept", "broken")
    if lines[0] == "broken":
        return step_words()
    return picture_words(("two",) if any(line.startswith("two") for line in lines[1:at]) else ("one", "two"))


def first_wrong_place(text, judge_of_line, least):
    """The line and the word that BadText tells of a text, None if it is right; least is the least number of lines."""
    lines = text.split("\n")
    for at, line in enumerate(lines):
        judge_of_it, words = judge_of_line(at, lines), line.split(" ")
        if judge_of_it is None:
            return at, 0
        can_begin, is_whole = judge_of_it
        for place in range(len(words)):
            if not can_begin(words[:place + 1]):
                return at, place
        if not is_whole(words):
            return at, len(words)
    return None if len(lines) >= least else (len(lines), 0)


def edits_of_lines(lines):
    """The texts with one line left out, doubled, put in, or exchanged with another one."""
    many = len(lines)
    found = [lines[:at] + lines[at + 1:] for at in range(many)] + [lines[:at] + lines[at:at + 1] + lines[at:] for at in range(many)]
    for new in ("", " ", "-", "x", "down 1", "sender 0 : - > 0", "receiver 0 : - > 0", "sender 0", "one a b c d e f g h", "two 1 2 3 4 5 6 7 8"):
        found += [lines[:at] + [new] + lines[at:] for at in range(many + 1)]
    for one in range(many):
        for other in range(one):
            swapped = list(lines)
            swapped[one], swapped[other] = swapped[other], swapped[one]
            found.append(swapped)
    return ["\n".join(told) for told in found]


def edits_of_words(lines, dice, many):
    """Texts with words of one line left out, put in, exchanged, changed or doubled."""
    found = []
    for _ in range(many):
        told = [line.split(" ") for line in lines]
        words = dice.choice(told)
        at, kind = dice.randrange(len(words)), dice.randrange(5)
        if kind == 0:
            del words[at]
        elif kind == 1:
            words.insert(dice.randrange(len(words) + 1), dice.choice(VOCABULARY))
        elif kind == 2:
            other = dice.randrange(len(words))
            words[at], words[other] = words[other], words[at]
        elif kind == 3:
            words[at] = dice.choice(VOCABULARY)
        else:
            words.insert(at, words[at])
        found.append("\n".join(" ".join(words) for words in told))
    return found


class Judged(unittest.TestCase):

    def assert_read(self, read, write, text, judge_of_line, least):
        """Asserts that a text is read and written again, or refused at its first wrong place, or as a class refuses it."""
        wrong = first_wrong_place(text, judge_of_line, least)
        if wrong is not None:
            assert_raises(self, BadText(*wrong), read, text)
            return
        lines = text.split("\n")
        if read == read_link and len(set(lines)) < len(lines):
            self.assertRaises(BadRow, read, text)
        else:
            self.assertEqual(write(read(text)), text)

    def assert_no_strings(self, read):
        for value in ANY:
            if not isinstance(value, str):
                assert_raises(self, BadText(0, 0), read, value)
                assert_raises(self, BadText(0, 0), read, text=value)


class TestLinks(Judged):

    def test_written(self):
        self.assertEqual(link_text(LINK).split("\n"), LINK_LINES)
        self.assertEqual(link_text(link=link_of((Sender(), Receiver()))), "down 1\nup 1")
        for value in ANY:
            if not isinstance(value, Link):
                assert_raises(self, BadLink("link"), link_text, value)

    def test_read_back(self):
        dice = dice_of(91)
        for _ in range(60):
            link = chance_link(dice, 3)
            self.assertTrue(read_link(link_text(link)) == link)
        for _ in range(40):
            rows = {side: [] for side in ("sender", "receiver")}
            for side in rows:
                for _ in range(dice.randrange(5)):
                    row = chance_row(dice, side)
                    rows[side] += [row] if row not in rows[side] else []
            link = Link(Sender(*rows["sender"]), Receiver(*rows["receiver"]), chance_channel(dice, 3), chance_channel(dice, 3))
            self.assertTrue(read_link(text=link_text(link)) == link)
        wide = link_of(all_so_far(3, 6), "3", "3 loses doubles overtakes 2")
        self.assertIsInstance(read_link(link_text(wide)), Link)
        self.assertTrue(read_link(link_text(wide)) == wide)

    def test_wrong_places_by_hand(self):
        for text, place in (
            ("", (0, 0)), ("down", (0, 1)), ("down 1", (1, 0)), ("down 1\n", (1, 0)), ("down 1\nup", (1, 1)), ("down 1\nup 2\n", (2, 0)),
            ("down 1\nup 2\n\n", (2, 0)), ("up 1\ndown 1", (0, 0)), ("down 4\nup x", (0, 1)), ("down 1 \nup 1", (0, 2)),
            ("down 1 x\nup 1", (0, 2)), ("down 1 doubles loses\nup 1", (0, 3)), ("down 1\nup 1 loses overtakes", (1, 4)),
            ("down 1\nup 1\nsender", (2, 1)), ("down 1\nup 1\nsender -", (2, 1)), ("down 1\nup 1\nsender 0 : out 0 > 0", (2, 3)),
            ("down 1\nup 1\nreceiver 0 : send 0 0 > 0", (2, 3)), ("down 1\nup 1\nsender 0 : - > 0 ; 1 : - > 0", (2, 6)),
            ("down 1\nup 1\nsender 0 : - > 0\nreceiver 0 : - > 0\nsender 1 : - > 0", (4, 0)), ("down 1\nup 1\nsender 0 : - >", (2, 5)),
            ("down 1\nup 1\nsender 0 : put 0 > 0\nfoo", (2, 3)), ("down 1\nup 1\nlink", (2, 0)), ("down 1\r\nup 1", (0, 1)),
            ("down  1\nup 1", (0, 1)), (" down 1\nup 1", (0, 0)), ("\ndown 1\nup 1", (0, 0)), ("DOWN 1\nup 1", (0, 0)),
        ):
            assert_raises(self, BadText(*place), read_link, text)

    def test_errors_of_the_ends_come_when_all_is_read(self):
        head, rows = "down 1\nup 1", ["sender 0 : - > 0", "sender 1 : - > 0", "sender 0 : - > 0"]
        assert_raises(self, BadRow(2), read_link, "\n".join([head] + rows))
        assert_raises(self, BadText(5, 0), read_link, "\n".join([head] + rows + ["x"]))
        two = ["receiver 1 : - > 0", "receiver 1 : - > 0"]
        assert_raises(self, BadRow(2), read_link, "\n".join([head] + rows + two))
        assert_raises(self, BadRow(1), read_link, "\n".join([head] + rows[:2] + two))
        many = [f"{word} {at // 24} : - > {at % 24}" for word in ("sender", "receiver") for at in range(121)]
        assert_raises(self, TooMany("rows", 120), read_link, "\n".join([head] + many[:121]))
        assert_raises(self, TooMany("rows", 120), read_link, "\n".join([head] + many[121:]))
        self.assertEqual(len(read_link("\n".join([head] + many[:120] + many[121:241])).receiver), 120)

    def test_edits(self):
        dice = dice_of(93)
        texts = edits_of_lines(LINK_LINES) + edits_of_words(LINK_LINES, dice, 900)
        for text in texts:
            self.assert_read(read_link, link_text, text, link_judge, 2)
        self.assertGreater(len([text for text in texts if first_wrong_place(text, link_judge, 2) is None]), 10)

    def test_no_strings(self):
        self.assert_no_strings(read_link)


class TestSteps(Judged):

    def test_written(self):
        self.assertEqual(steps_text(STEPS).split("\n"), STEP_LINES)
        self.assertEqual(steps_text(steps=tuple(STEPS)), "\n".join(STEP_LINES))
        self.assertEqual([steps_text([]), steps_text(()), steps_text(STEPS[2:3])], ["-", "-", "lose up 0"])
        for value in ANY:
            if not isinstance(value, (list, tuple)):
                assert_raises(self, BadRun("steps"), steps_text, value)
            if not isinstance(value, (Act, Hear, Lose)):
                assert_raises(self, BadRun("steps"), steps_text, STEPS + [value])
                assert_raises(self, BadRun("steps"), steps_text, (value,))

    def test_read_back(self):
        self.assertEqual(read_steps("-"), ())
        self.assertEqual(read_steps(text="\n".join(STEP_LINES)), tuple(STEPS))
        for words in STEP_WORDS:
            self.assertEqual(steps_text(read_steps(" ".join(words))), " ".join(words))
        dice = dice_of(95)
        for _ in range(20):
            steps = [Step.read(" ".join(dice.choice(STEP_WORDS))) for _ in range(dice.randrange(30))]
            self.assertEqual(read_steps(steps_text(steps)), tuple(steps))

    def test_wrong_places_by_hand(self):
        for text, place in (
            ("", (0, 0)), ("- ", (0, 1)), ("- -", (0, 1)), ("-\n", (1, 0)), ("-\n-", (1, 0)), ("-\nsender 0", (1, 0)), ("- x\ny", (0, 1)),
            ("sender 0\n-", (1, 0)), ("sender 0\n", (1, 0)), ("sender", (0, 1)), ("sender 120", (0, 1)), ("sender 0\nlose", (1, 1)),
            ("sender 0 place 3\nx", (0, 3)), ("sender 0 place 0 stays stays", (0, 5)), ("lose down 0 stays", (0, 3)), ("--", (0, 0)),
            ("sender 0\n\nsender 1", (1, 0)), (" -", (0, 0)),
        ):
            assert_raises(self, BadText(*place), read_steps, text)

    def test_edits(self):
        dice = dice_of(97)
        for text in edits_of_lines(STEP_LINES) + edits_of_words(STEP_LINES, dice, 900) + edits_of_lines(["-"]):
            self.assert_read(read_steps, steps_text, text, steps_judge, 1)

    def test_no_strings(self):
        self.assert_no_strings(read_steps)


class TestVerdicts(Judged):

    def test_written(self):
        self.assertEqual(verdict_text(KEPT).split("\n"), KEPT_LINES)
        self.assertEqual(verdict_text(Broken(tuple(STEPS))).split("\n"), ["broken"] + STEP_LINES)
        self.assertEqual([verdict_text(Kept((), ())), verdict_text(verdict=Broken(()))], ["kept", "broken"])

    def test_no_verdicts(self):
        right = ("1 0 0 - - 0 - -",)
        for value in ANY:
            if not isinstance(value, (Kept, Broken)):
                assert_raises(self, BadLink("verdict"), verdict_text, value)
            if value != ():
                assert_raises(self, BadLink("verdict"), verdict_text, Kept(value, right))
                assert_raises(self, BadLink("verdict"), verdict_text, Kept(right, value))
                assert_raises(self, BadLink("verdict"), verdict_text, Broken(value))
            assert_raises(self, BadLink("verdict"), verdict_text, Kept(right + (value,), right))
            if not isinstance(value, (Act, Hear, Lose)):
                assert_raises(self, BadLink("verdict"), verdict_text, Broken((STEPS[0], value)))
        for text in ("1 2 3 4 5 6 7", "1 2 3 4 5 6 7 8 9", "1 2 3 4 5 6 7 ", "1 2 3  5 6 7 8", "1 2 3 4 5 6 7 8\n", "1 2 3\n4 5 6 7 8 9", " 1 2 3 4 5 6 7"):
            assert_raises(self, BadLink("verdict"), verdict_text, Kept((text,), ()))
            assert_raises(self, BadLink("verdict"), verdict_text, Kept((), (text,)))
        assert_raises(self, BadLink("verdict"), verdict_text, Broken(list(STEPS)))
        assert_raises(self, BadLink("verdict"), verdict_text, Kept(list(right), right))

    def test_read_back(self):
        self.assertEqual(read_verdict("\n".join(KEPT_LINES)), KEPT)
        self.assertEqual(read_verdict(text="kept"), Kept((), ()))
        self.assertEqual(read_verdict("broken"), Broken(()))
        self.assertEqual(read_verdict("broken\n" + "\n".join(STEP_LINES)), Broken(tuple(STEPS)))
        self.assertEqual(read_verdict("kept\ntwo 1 2 3 4 5 6 7 8"), Kept((), ("1 2 3 4 5 6 7 8",)))

    def test_written_read_and_shown(self):
        dice = dice_of(99)
        links = [link_of(one_by_one(2), "1 loses", "1 loses"), link_of(AGAIN), link_of((Sender(), Receiver()))]
        for link in links + [chance_link(dice, 1) for _ in range(20)]:
            told = judge(link, 20000)
            again = read_verdict(verdict_text(told))
            self.assertEqual(again, told)
            self.assertIs(shows_judged(read_link(link_text(link)), again), True)
            if not told:
                self.assertEqual(Run.of(link, read_steps(steps_text(told.steps))).is_true, False)

    def test_wrong_places_by_hand(self):
        for text, place in (
            ("", (0, 0)), ("keep", (0, 0)), ("kept ", (0, 1)), ("kept one", (0, 1)), ("kept\n", (1, 0)), ("kept\nthree", (1, 0)),
            ("kept\none", (1, 1)), ("kept\none 1 2 3 4 5 6 7", (1, 8)), ("kept\none 1 2 3 4 5 6 7 8 9", (1, 9)),
            ("kept\none 1 2  4 5 6 7 8", (1, 3)), ("kept\none 1 2 3 4 5 6 7 ", (1, 8)), ("kept\none 1 2 3 4 5 6 7 8 ", (1, 9)),
            ("kept\ntwo 1 2 3 4 5 6 7 8\none 1 2 3 4 5 6 7 8", (2, 0)), ("broken\n", (1, 0)), ("broken\n-", (1, 0)),
            ("broken\nsender 0\nlose down", (2, 2)), ("broken\none 1 2 3 4 5 6 7 8", (1, 0)), ("kept\nsender 0", (1, 0)),
            ("sender 0", (0, 0)), ("kept\nkept", (1, 0)),
        ):
            assert_raises(self, BadText(*place), read_verdict, text)

    def test_edits(self):
        dice = dice_of(101)
        for lines in (KEPT_LINES, ["broken"] + STEP_LINES):
            for text in edits_of_lines(lines) + edits_of_words(lines, dice, 700):
                self.assert_read(read_verdict, verdict_text, text, verdict_judge, 1)

    def test_no_strings(self):
        self.assert_no_strings(read_verdict)
