"""Tests of desks: each line with its answer, wrong lines, names, undo, and lines that are carried out together."""

import unittest

from markedpair.channels import Channel, channels_of
from markedpair.desk import Desk
from markedpair.errors import BadCommand, BadRow, NoName, TooMany
from markedpair.families import all_so_far, each_by_itself, one_by_one
from markedpair.going import goes_on
from markedpair.judged import judge
from markedpair.links import Link
from markedpair.logs import log_of
from markedpair.pictures import reached
from markedpair.runs import Run
from markedpair.steps import Step
from markedpair.texts import link_text
from markedpair.used import idle_rows
from tests.links import AGAIN, PAIRS, link_of
from tests.support import ANY, assert_raises, dice_of, edited, single_edits
from tests.test_ends import can_begin_end, is_whole_end
from tests.test_texts import CHANNEL_WORDS, STEPS_BEGUN, STEPS_WHOLE

SENDER, RECEIVER = [str(end) for end in AGAIN]
# A sender, a receiver, a channel, a link and a run.
LINES = [f"sender s {SENDER}", f"receiver r {RECEIVER}", "channel c 2", "link l s r c c", "run u l 3"]
WALK = ["do u sender 0", "do u sender 1", "do u receiver 0 place 0"]
NAMES = ["s", "r", "c", "l", "u"]


def desk_of(*further):
    """A desk behind LINES and some further lines."""
    desk = Desk()
    for line in (*LINES, *further):
        assert desk.say(line) == "ok", line
    return desk


def shown(desk):
    """All that a desk shows."""
    return desk.names, len(desk), [desk.say(f"show {name}") for name in desk.names]


def joined(values, sign=" ; "):
    return sign.join(str(value) for value in values) or "-"


def is_name(word):
    return 1 <= len(word) <= 8 and all(letter in "abcdefghijklmnopqrstuvwxyz" for letter in word)


def counts(least, most):
    """The judge of a count: whether words can begin it, and whether they are it."""
    told = [[str(value)] for value in range(least, most + 1)]
    return lambda words: words in told, lambda words: words in told


# Judges of the parts of a line.
A_NAME = (lambda words: len(words) == 1 and is_name(words[0]),) * 2
NUMBERS, WINDOW, LESSER, COUNT = counts(1, 6), counts(1, 3), counts(1, 2), counts(0, 100)
CHANNEL = (lambda words: any(words == told[:len(words)] for told in CHANNEL_WORDS), lambda words: words in CHANNEL_WORDS)
STEP = (lambda words: tuple(words) in STEPS_BEGUN, lambda words: tuple(words) in STEPS_WHOLE)


def end_words(side):
    return lambda words: can_begin_end(words, side), lambda words: is_whole_end(words, side)


FORMS = {
    "sender": [A_NAME, end_words("sender")], "receiver": [A_NAME, end_words("receiver")], "channel": [A_NAME, CHANNEL],
    "one": [A_NAME, A_NAME, NUMBERS], "all": [A_NAME, A_NAME, WINDOW, NUMBERS], "each": [A_NAME, A_NAME, LESSER, NUMBERS],
    "link": [A_NAME] * 5, "run": [A_NAME, A_NAME, COUNT], "drop": [A_NAME], "undo": [], "do": [A_NAME, STEP],
}
FORMS.update({word: [A_NAME] for word in ("show", "out", "open", "seen", "judge", "way", "going", "idle", "log")})


def can_begin_line(words):
    """Whether some line begins with these words."""
    if words[0] not in FORMS:
        return False
    if words[0] in ("one", "all", "each") and len(words) > 2 and words[1] == words[2]:
        return False
    rest = words[1:]
    for can_begin, _ in FORMS[words[0]]:
        if can_begin in (CHANNEL[0], STEP[0]) or (words[0] in ("sender", "receiver") and len(rest) < len(words) - 1):
            return rest == [] or can_begin(rest)
        if rest and not can_begin(rest[:1]):
            return False
        rest = rest[1:]
    return rest == []


def is_whole_line(words):
    """Whether these words, which can begin a line, are one."""
    form = FORMS[words[0]]
    if len(words) <= len(form):
        return False
    return all(is_whole(words[at + 1:] if at == len(form) - 1 else words[at + 1:at + 2]) for at, (_, is_whole) in enumerate(form))


def wrong_word(line):
    """The word that BadCommand tells of a line, None if it is right."""
    words = line.split(" ")
    for many in range(1, len(words) + 1):
        if not can_begin_line(words[:many]):
            return many - 1
    return None if is_whole_line(words) else len(words)


class TestLines(unittest.TestCase):

    def test_things_under_names(self):
        desk = Desk()
        self.assertEqual([desk.names, len(desk), bool(desk)], [(), 0, False])
        for line in LINES:
            self.assertEqual(desk(line), "ok")
        self.assertEqual([desk.names, len(desk), bool(desk)], [("c", "l", "r", "s", "u"), 5, True])
        self.assertEqual(desk.say(line="show s"), SENDER)
        self.assertEqual(desk(line="show r"), RECEIVER)
        self.assertEqual([desk("show c"), desk("show u")], ["2", "-"])
        self.assertEqual(desk("show l"), link_text(link_of(AGAIN, "2", "2")).replace("\n", " / "))
        self.assertEqual(len(desk), 5)

    def test_channels(self):
        desk = Desk()
        for capacity in (1, 2, 3):
            for channel in channels_of(capacity):
                self.assertEqual([desk(f"channel c {channel}"), desk("show c")], ["ok", str(channel)])
        self.assertEqual(desk("sender c -"), "ok")
        self.assertEqual([desk("show c"), desk.names], ["-", ("c",)])

    def test_families(self):
        desk = Desk()
        for numbers in range(1, 7):
            lines = [(f"one a b {numbers}", one_by_one(numbers))]
            lines += [(f"all a b {window} {numbers}", all_so_far(window, numbers)) for window in (1, 2, 3)]
            lines += [(f"each a b {window} {numbers}", each_by_itself(window, numbers)) for window in (1, 2)]
            for line, (sender, receiver) in lines:
                self.assertEqual([desk(line), desk("show a"), desk("show b")], ["ok", str(sender), str(receiver)])
        self.assertEqual([desk.names, len(desk)], [("a", "b"), 36])
        desk("undo")
        self.assertEqual(desk("show b"), str(each_by_itself(1, 6)[1]))

    def test_runs(self):
        desk = desk_of(*WALK)
        link = link_of(AGAIN, "2", "2")
        run = Run.of(link, [Step.read(line[5:]) for line in WALK], [0, 1, 2])
        self.assertEqual(desk("show u"), joined(run.done))
        self.assertEqual([desk("out u"), desk("open u"), desk("seen u"), desk("log u")],
                         ["0", joined(run.open_steps()), run.seen(), joined(log_of(run))])
        self.assertEqual([desk("do u sender 0"), desk("do u sender 7"), desk("do u lose down 0")],
                         ["blocked boxes", "blocked row", "blocked letter"])
        self.assertEqual([desk("do u sender 1"), desk("do u receiver 0 place 0"), desk("out u")], ["ok", "ok", "0 0"])
        self.assertEqual([desk("run v l 0"), desk("open v"), desk("out v"), desk("log v"), desk("show v")], ["ok", "-", "-", "-", "-"])
        self.assertEqual(desk("do v sender 0"), "blocked message")
        self.assertEqual([desk("run v l 100"), desk("open v")], ["ok", "sender 0"])

    def test_runs_by_chance(self):
        dice = dice_of(111)
        for _ in range(15):
            desk = desk_of("channel d 3 loses doubles overtakes 1", "link l s r d c", "run u l 2")
            run = Run(Link(*AGAIN, Channel.read("3 loses doubles overtakes 1"), Channel(2)), [0, 1])
            many = len(desk)
            for _ in range(15):
                text = " ".join(dice.choice(sorted(STEPS_WHOLE))) if dice.randrange(3) == 0 else str(dice.choice(list(run.open_steps()) or ["sender 0"]))
                word = run.blocked(Step.read(text))
                self.assertEqual(desk(f"do u {text}"), "ok" if word is None else f"blocked {word}")
                if word is None:
                    run.do(Step.read(text))
                self.assertEqual([desk("show u"), desk("out u"), desk("open u"), desk("seen u"), desk("log u")],
                                 [joined(run.done), joined(run.out, " "), joined(run.open_steps()), run.seen(), joined(log_of(run))])
                self.assertEqual(len(desk), many + len(run.done))

    def test_400_steps(self):
        desk = Desk()
        desk.run_lines("sender s 0 : - > 0", "receiver r -", "channel c 1", "link l s r c c", "run u l 0", *["do u sender 0"] * 400)
        ahead = shown(desk)
        assert_raises(self, TooMany("steps", 400), desk.say, "do u sender 0")
        assert_raises(self, TooMany("steps", 400), desk.say, "do u sender 1")
        self.assertEqual(shown(desk), ahead)
        self.assertEqual([desk("undo"), desk("do u sender 1"), desk("do u sender 0")], ["ok", "blocked row", "ok"])

    def test_judgements(self):
        desk = Desk()
        for sender, receiver in PAIRS:
            for down, up in (("1", "1"), ("1 loses", "2"), ("1 doubles", "1 overtakes 1")):
                desk.run_lines(f"sender s {sender}", f"receiver r {receiver}", f"channel c {down}", f"channel d {up}", "link l s r c d")
                link = link_of((sender, receiver), down, up)
                told = judge(link, 2000)
                self.assertEqual(desk("judge l"), "kept" if told else f"broken {len(told.steps)}")
                self.assertEqual(desk("way l"), "-" if told else joined(told.steps))
                self.assertEqual(desk("going l"), "goes" if goes_on(link, 2000) else "stuck")
                self.assertEqual(desk("idle l"), joined([f"{side} {at}" for side, at in idle_rows(link, 2000).rows]))
        desk.run_lines("sender s 0 : take 0 > 0 ; 1 : - > 0 ; 2 : - > 0", "receiver r 3 : - > 0", "link l s r c d")
        self.assertEqual(desk("idle l"), "sender 1 ; sender 2 ; receiver 0")

    def test_many(self):
        desk = Desk()
        desk.run_lines("all s r 2 3", "channel c 3 loses doubles", "link l s r c c")
        self.assertEqual([desk(f"{word} l") for word in ("judge", "way", "going", "idle")], ["many"] * 4)
        self.assertEqual(len(desk), 3)

    def test_the_limit_is_2000(self):
        for family, down, up, many in (("each s r 1 6", "2 overtakes 1", "2 doubles", 1968), ("each s r 2 5", "2", "2 doubles", 2005)):
            desk = Desk()
            desk.run_lines(family, f"channel c {down}", f"channel d {up}", "link l s r c d")
            pair = each_by_itself(*[int(word) for word in family.split(" ")[3:]])
            self.assertEqual(len(reached(link_of(pair, down, up), 0)), many)
            self.assertEqual(desk("idle l") == "many", many > 2000)


class TestWrongLines(unittest.TestCase):

    def test_no_strings(self):
        desk = Desk()
        for value in ANY:
            if not isinstance(value, str):
                assert_raises(self, BadCommand(0), desk.say, value)
                assert_raises(self, BadCommand(0), desk, value)
                assert_raises(self, BadCommand(0), desk.run_lines, value)

    def test_by_hand(self):
        desk = desk_of()
        for line, word in (
            ("", 0), (" ", 0), ("foo", 0), ("sender", 1), ("sender S -", 1), ("sender abcdefghi -", 1), ("sender s", 2), ("sender s x", 2),
            ("sender s - -", 3), ("sender s 0 : out 0 > 0", 4), ("receiver s 0 : out 0", 6), ("channel c", 2), ("channel c 4", 2),
            ("channel c 1 loses loses", 4), ("one a", 2), ("one a a 2", 2), ("one a b", 3), ("one a b 0", 3), ("one a b 7", 3), ("one a b 02", 3),
            ("one a b 2 2", 4), ("all a b 4 2", 3), ("all a b 3 7", 4), ("all a a 3 2", 2), ("each a b 3 2", 3), ("each a b 2", 4), ("each a a", 2),
            ("link l s r c", 5), ("link l s r c c c", 6), ("link l s R c c", 3), ("run u l", 3), ("run u l 101", 3), ("run u l -1", 3), ("run u l 00", 3),
            ("drop", 1), ("drop a b", 2), ("drop A", 1), ("undo x", 1), ("undo ", 1), ("do u", 2), ("do u take", 2), ("do u sender 120", 3),
            ("do u sender 0 place 0 stays x", 7), ("show", 1), ("show 1", 1), ("out u u", 2), ("open", 1), ("judge l ", 2), ("way", 1), ("going l l", 2),
            ("idle", 1), ("log u 0", 2), ("seen u\n", 1), ("Show u", 0), ("show  u", 1), ("drop s\n", 1), ("\nundo", 0), ("do u sender 0\n", 3),
        ):
            self.assertEqual(wrong_word(line), word, line)
            assert_raises(self, BadCommand(word), desk.say, line)
        self.assertEqual(len(desk), 5)

    def test_edits(self):
        vocabulary = ["", "0", "1", "2", "3", "6", "7", "100", "101", "s", "r", "u", "l", "abcdefgh", "A", "sender", "receiver", "lose", "down",
                      "place", "stays", "loses", "overtakes", "undo", "do", "one", "all", "each", ";", ":", ">", "-", "take", "x1"]
        lines = LINES[2:] + WALK + ["sender s 0 : take 0 > 0", "receiver r 0 hear 0 : - > 1 ; 1 : - > 0", "one a b 2", "all a b 3 6", "each a b 2 1",
                                    "drop u", "undo", "show l", "open u", "judge l", "log u", "do u lose down 0", "do u sender 0 place 0 stays",
                                    "channel d 2 loses doubles overtakes 1", "sender s -"]
        desk, dice, right = desk_of(), dice_of(113), 0
        for line in lines:
            texts = single_edits(line, vocabulary) if len(line) < 20 else []
            texts += [edited(line, vocabulary, dice.choice([1, 2]), dice) for _ in range(150)]
            for text in texts:
                word = wrong_word(text)
                if word is not None:
                    assert_raises(self, BadCommand(word), desk.say, text)
                else:
                    right += 1
        self.assertGreater(right, 200)
        self.assertEqual([len(desk), desk.names], [5, tuple(sorted(NAMES))])

    def test_a_wrong_word_comes_ahead_of_names(self):
        for line, word in (("do x sender", 3), ("link l x x x", 5), ("run u x 101", 3), ("show x y", 2)):
            assert_raises(self, BadCommand(word), Desk().say, line)

    def test_names(self):
        desk = desk_of()
        for line, name in (
            ("drop x", "x"), ("show x", "x"), ("run v x 1", "x"), ("run v s 1", "s"), ("run v u 1", "u"), ("do l sender 0", "l"), ("do x sender 0", "x"),
            ("link m x y c c", "x"), ("link m s y c c", "y"), ("link m s s c c", "s"), ("link m r s c c", "r"), ("link m s r x y", "x"),
            ("link m s r c x", "x"), ("link m s r c s", "s"), ("link m s r l c", "l"), ("link x s r x c", "x"), ("run x x 0", "x"),
        ):
            assert_raises(self, NoName(name), desk.say, line)
        for word, right in (("out", "u"), ("open", "u"), ("seen", "u"), ("log", "u"), ("judge", "l"), ("way", "l"), ("going", "l"), ("idle", "l")):
            for name in NAMES + ["x", "abcdefgh"]:
                if name != right:
                    assert_raises(self, NoName(name), desk.say, f"{word} {name}")
        self.assertEqual([len(desk), desk.names], [5, tuple(sorted(NAMES))])

    def test_errors_of_what_is_called(self):
        desk = desk_of()
        ahead = shown(desk)
        assert_raises(self, BadRow(1), desk.say, "sender x 0 : - > 0 ; 0 : - > 0")
        rows = " ; ".join([f"{at // 24} : - > {at % 24}" for at in range(121)])
        for word in ("sender", "receiver"):
            assert_raises(self, TooMany("rows", 120), desk.say, f"{word} s {rows}")
        self.assertEqual(shown(desk), ahead)


class TestUndo(unittest.TestCase):

    def test_nothing(self):
        desk = Desk()
        self.assertEqual([desk("undo"), desk("undo"), len(desk)], ["nothing", "nothing", 0])

    def test_each_kind_of_line(self):
        desk = desk_of(*WALK)
        for line in LINES + ["one s r 2", "one l u 2", "all c u 1 1", "each x y 2 2", "drop s", "drop l", "drop u", "do u sender 1", "run s l 1",
                             "channel u 3", "sender l -", "receiver u -", "link u s r c c"]:
            ahead = shown(desk)
            self.assertEqual(desk(line), "ok")
            self.assertEqual(len(desk), ahead[1] + 1)
            self.assertNotEqual(shown(desk), ahead)
            self.assertEqual(desk("undo"), "ok")
            self.assertEqual(shown(desk), ahead)

    def test_lines_that_only_ask_and_blocked_ones_are_not_taken_back(self):
        desk = desk_of()
        for line in ("do u sender 1", "show l", "out u", "open u", "seen u", "judge l", "way l", "going l", "idle l", "log u"):
            desk(line)
            self.assertEqual(len(desk), 5)
        self.assertEqual(desk("undo"), "ok")
        self.assertEqual(desk.names, ("c", "l", "r", "s"))

    def test_to_the_beginning_and_beyond(self):
        desk = desk_of(*WALK, "drop l", "drop u", "channel u 1")
        stories = []
        other = Desk()
        for line in (*LINES, *WALK, "drop l", "drop u", "channel u 1"):
            stories.append(shown(other))
            other(line)
        while stories:
            self.assertEqual(desk("undo"), "ok")
            self.assertEqual(shown(desk), stories.pop())
        self.assertEqual([desk("undo"), desk.names], ["nothing", ()])

    def test_steps_of_a_run_that_was_replaced(self):
        desk = desk_of(*WALK, "run u l 1", "do u sender 0")
        self.assertEqual([desk("undo"), desk("show u")], ["ok", "-"])
        self.assertEqual([desk("undo"), desk("out u")], ["ok", "0"])
        self.assertEqual([desk("undo"), desk("out u"), desk("show u")], ["ok", "-", "sender 0 ; sender 1"])

    def test_by_chance(self):
        dice = dice_of(115)
        lot = LINES + WALK * 3 + ["drop s", "drop u", "drop l", "one s r 2", "channel c 1", "undo", "undo", "undo", "do u lose down 0", "judge l", "out u"]
        for _ in range(25):
            desk, stories = Desk(), []
            for _ in range(40):
                line, ahead = dice.choice(lot), shown(desk)
                try:
                    answer = desk(line)
                except NoName:
                    self.assertEqual(shown(desk), ahead)
                    continue
                if line == "undo":
                    self.assertEqual(answer, "ok" if stories else "nothing")
                    self.assertEqual(shown(desk), stories.pop() if stories else ahead)
                elif len(desk) > ahead[1]:
                    stories.append(ahead)
                else:
                    self.assertEqual(shown(desk), ahead)


class TestParts(unittest.TestCase):

    def test_a_link_and_a_run_keep_their_parts(self):
        desk = desk_of("do u sender 0")
        told = desk("show l")
        for line in ("sender s -", "receiver r -", "channel c 1", "drop s", "drop r", "drop c"):
            self.assertEqual(desk(line), "ok")
        self.assertEqual([desk("show l"), desk("open u")], [told, "sender 1"])
        self.assertEqual([desk("drop l"), desk("do u sender 1"), desk("seen u")], ["ok", "ok", "0 0 0 . 0. 0 - -"])
        self.assertEqual(desk.names, ("u",))

    def test_two_runs_of_a_link(self):
        desk = desk_of("run v l 1", "do v sender 0")
        self.assertEqual([desk("show u"), desk("show v")], ["-", "sender 0"])

    def test_a_new_name_can_be_that_of_a_part(self):
        desk = desk_of("link s s r c c", "run r s 1")
        self.assertEqual([desk("judge s"), desk("open r")], ["broken 5", "sender 0"])
        assert_raises(self, NoName("s"), desk.say, "link x s r c c")


class TestTogether(unittest.TestCase):

    def test_answers(self):
        desk = Desk()
        self.assertEqual(desk.run_lines(), [])
        answers = desk.run_lines(*LINES, *WALK, "out u", "undo", "out u")
        self.assertEqual(answers, ["ok"] * 8 + ["0", "ok", "-"])
        self.assertIsInstance(answers, list)
        self.assertEqual(len(desk), 7)
        self.assertEqual(desk("undo"), "ok")
        self.assertEqual(desk("show u"), "sender 0")

    def test_an_error_takes_all_back(self):
        for last, error in (("foo", BadCommand(0)), (None, BadCommand(0)), ("show x", NoName("x")), ("sender s 0 : - > 0 ; 0 : - > 0", BadRow(1))):
            desk = desk_of(*WALK)
            ahead = shown(desk)
            lines = ["do u sender 1", "undo", "undo", "do u sender 1", "drop l", "drop u", "one s r 2", "undo", "undo", "undo", "undo", "undo", "undo"]
            assert_raises(self, error, desk.run_lines, *lines, last, "drop c")
            self.assertEqual(shown(desk), ahead)
            self.assertEqual([desk("undo"), desk("show u")], ["ok", "sender 0 ; sender 1"])
            self.assertEqual([desk("undo"), desk("undo"), desk("undo"), desk.names], ["ok"] * 3 + [("c", "l", "r", "s")])

    def test_blocked_and_nothing_are_no_errors(self):
        desk = Desk()
        self.assertEqual(desk.run_lines("undo", *LINES, "do u sender 1"), ["nothing"] + ["ok"] * 5 + ["blocked boxes"])
        self.assertEqual(desk.run_lines("one s t 1", "channel c 3 loses doubles", "all s t 3 6", "link l s t c c", "judge l")[-1], "many")

    def test_two_desks(self):
        one, other = desk_of(), Desk()
        self.assertEqual([len(other), other.names], [0, ()])
        self.assertTrue(one == one)
        self.assertFalse(one == desk_of())
