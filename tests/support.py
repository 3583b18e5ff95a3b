"""What several tests need: values of all kinds, edited texts, and a slow judge of texts."""

import random

from markedpair.bench import Bench
from markedpair.borne import Borne
from markedpair.channels import Channel, Doubles, Loses, Overtakes
from markedpair.deeds import Answer, Clear, Move, Out, Put, Send, Take
from markedpair.desk import Desk
from markedpair.ends import Receiver, Sender
from markedpair.errors import BadText
from markedpair.going import Goes, Stuck
from markedpair.judged import Broken, Kept
from markedpair.links import Link
from markedpair.pictures import Change
from markedpair.rows import Row
from markedpair.runs import Run
from markedpair.steps import Act, Hear, Lose
from markedpair.used import Idle

SENDER = Sender(
    Row(0, Take(0), then=0, empty=(0,)),
    Row(0, Send(0, 0), then=0, full=(0,)),
    Row(0, Clear(0), then=0, hear=0, full=(0,)),
)
RECEIVER = Receiver(Row(0, Put(0), Out(0), Answer(0), then=0, hear=0))

OBJECTS = [
    Take(0), Send(0, 1), Put(1), Out(2), Answer(3), Move(0, 1), Clear(2),
    Row(0, then=1), Row(0, Put(0), then=1, hear=0), Row(0, Take(0), then=0, empty=(0,)),
    SENDER, RECEIVER, Sender(), Receiver(),
    Loses(), Doubles(), Overtakes(1), Channel(1), Channel(2, Loses(), Overtakes(2)),
    Link(SENDER, RECEIVER, Channel(1), Channel(2)),
    Act("sender", 0), Hear("receiver", 1, 1, True), Lose("up", 2),
    BadText(0, 1),
    Run(Link(SENDER, RECEIVER, Channel(1), Channel(2)), ["p"]),
    Kept((), ()), Broken(()), Broken((Act("sender", 0),)), Goes(()), Stuck((), None, ()), Borne((), ()),
    Change(Act("sender", 0), ".", None, False), Idle((), ()), Bench(SENDER, RECEIVER), Desk(),
]

PLAIN = [
    None, True, False,
    -1, 0, 1, 2, 3, 4, 5, 6, 7, 8, 9, 22, 23, 24, 25, 119, 120, 121, -24, 1000, 10 ** 39, -(10 ** 39),
    "", " ", "0", "1", "sender", "receiver", "other", "down", "up", "take", "none", "a", "abcdefgh",
    "abcdefghi", "Abc", "a1", "a b", "\n", "x" * 4000,
    (), (0,), (1,), (0, 1), (0, 1, 2), (1, 0), (0, 0), (0, True), ("sender",), ((),), (None,),
    [], [0], [0, 1], ["sender"], [[[[[[[[]]]]]]]], [None, (1, {"a": [2]})],
    {}, {0: 1}, {True: 1}, {"a": "b"}, {(0, 1): [2]}, {None: {}},
]

ANY = PLAIN + OBJECTS


def is_plain_integer(value):
    """Whether it is an int and no bool, asked in another way than the package asks."""
    return type(value) is int


def integers_outside(least, most):
    """The values of all kinds that are no integers from least to most."""
    return [value for value in ANY if not (is_plain_integer(value) and least <= value <= most)]


def assert_raises(test, error, call, *args, **more):
    """Asserts that a call raises just an error of this class with these attributes."""
    try:
        got = call(*args, **more)
    except Exception as raised:
        test.assertIs(error.__class__, raised.__class__, (args, more, vars(raised)))
        told, wanted = vars(raised), vars(error)
        test.assertEqual(list(told), list(wanted))
        for name in wanted:
            test.assertIs(told[name].__class__, wanted[name].__class__, (args, more, told, wanted))
            test.assertEqual(told[name], wanted[name], (args, more))
        return
    test.fail(f"{args} {more} gave {got!r} instead of {error!r}")


def first_wrong_word(text, can_begin, is_whole):
    """The word that BadText tells of a text, None if it is right.

    can_begin tells whether some right text begins with these words; is_whole whether they are one.
    """
    words = text.split(" ")
    for at in range(len(words)):
        if not can_begin(words[:at + 1]):
            return at
    return None if is_whole(words) else len(words)


def assert_read(test, read, text, wrong):
    """Asserts that a text is read, or refused at this word."""
    if wrong is None:
        test.assertEqual(text, str(read(text)))
    else:
        assert_raises(test, BadText(0, wrong), read, text)


def assert_reads_only_strings(test, read):
    """Asserts that what is no string is refused as such."""
    for value in ANY:
        if not isinstance(value, str):
            assert_raises(test, BadText(0, 0), read, value)
            assert_raises(test, BadText(0, 0), read, text=value)


def single_edits(text, vocabulary):
    """The texts with one word put in, left out, changed, doubled, or exchanged with another one."""
    words = text.split(" ")
    many = len(words)
    found = [words[:at] + [new] + words[at:] for at in range(many + 1) for new in vocabulary]
    found += [words[:at] + [new] + words[at + 1:] for at in range(many) for new in vocabulary]
    found += [words[:at] + words[at + 1:] for at in range(many)]
    found += [words[:at + 1] + words[at:] for at in range(many)]
    for one in range(many):
        for other in range(one):
            swapped = list(words)
            swapped[one], swapped[other] = swapped[other], swapped[one]
            found.append(swapped)
    return [" ".join(edited) for edited in found]


def edited(text, vocabulary, times, dice):
    """A text after so many edits by chance."""
    words = text.split(" ")
    for _ in range(times):
        at = dice.randrange(len(words) + 1)
        kind = dice.randrange(5)
        if kind == 0 or not words or at == len(words):
            words.insert(at, dice.choice(vocabulary))
        elif kind == 1:
            del words[at]
        elif kind == 2:
            words[at] = dice.choice(vocabulary)
        elif kind == 3:
            words.insert(at, words[at])
        else:
            other = dice.randrange(len(words))
            words[at], words[other] = words[other], words[at]
    return " ".join(words)


def dice_of(seed):
    """A source of chance that is the same in every run."""
    return random.Random(seed)


DEEDS = (
    [Take(box) for box in range(3)]
    + [Send(box, number) for box in range(3) for number in range(6)]
    + [Put(box) for box in range(3)]
    + [Out(box) for box in range(3)]
    + [Answer(number) for number in range(6)]
    + [Move(box, to) for box in range(3) for to in range(3) if to != box]
    + [Clear(box) for box in range(3)]
)
SENDERS_DEEDS = [deed for deed in DEEDS if str(deed).split(" ")[0] in ("take", "send", "move", "clear")]
RECEIVERS_DEEDS = [deed for deed in DEEDS if str(deed).split(" ")[0] in ("put", "out", "answer", "move", "clear")]
DEED_OF_TEXT = {str(deed): deed for deed in DEEDS}


def chance_row(dice, side=None):
    """A row by chance, for a side if one is told."""
    side = side or dice.choice(["sender", "receiver"])
    hear = dice.choice([None, None, "other", *range(6)])
    deeds = []
    for _ in range(dice.choice([0, 1, 1, 2, 2, 3, 4, 8])):
        deed = dice.choice(SENDERS_DEEDS if side == "sender" else RECEIVERS_DEEDS)
        if isinstance(deed, Put) and hear is None:
            continue
        if isinstance(deed, Take) and any(isinstance(other, Take) for other in deeds):
            continue
        deeds.append(deed)
    lot = [dice.randrange(3) for _ in range(3)]
    empty = tuple(box for box in range(3) if lot[box] == 1)
    full = tuple(box for box in range(3) if lot[box] == 2)
    return Row(dice.randrange(24), *deeds, then=dice.randrange(24), hear=hear, empty=empty, full=full)


NUMERALS = [str(value) for value in range(24)]
ENDINGS = (
    [[]]
    + [[last] for last in ("0",)]
    + [[">", "0"]]
    + [[box, ">", "0"] for box in "012"]
    + [[box, to, ">", "0"] for box in "012" for to in "012"]
    + [["clear", "0", ">", "0"], ["-", ">", "0"], [":", "-", ">", "0"]]
    + [[word, ":", "-", ">", "0"] for word in ("0", "1", "2")]
)


def row_of_words(words):
    """The row with just these words, made by its class and not by its reader; None if there is none."""
    try:
        colon, sign = words.index(":"), len(words) - 2
        head, middle, last = words[1:colon], words[colon + 1:sign], words[-1]
        if words[0] not in NUMERALS or words[sign] != ">" or last not in NUMERALS:
            return None
        hear, empty, full = head_of_words(head)
        texts = [] if middle == ["-"] else " ".join(middle).split(" , ")
        deeds = [DEED_OF_TEXT[text] for text in texts]
        row = Row(int(words[0]), *deeds, then=int(last), hear=hear, empty=empty, full=full)
    except (ValueError, IndexError, KeyError):
        return None
    return row if str(row).split(" ") == words else None


def head_of_words(head):
    """What a row hears, its empty and its full boxes, roughly from the words ahead of the colon."""
    hear, parts, name = None, {"empty": [], "full": []}, None
    for word in head:
        if word in ("hear", "empty", "full"):
            name = word
        elif name == "hear":
            hear = word if word == "other" else int(word)
        else:
            parts[name].append(int(word))
    return hear, tuple(parts["empty"]), tuple(parts["full"])


def can_begin_row(words, side=None):
    """Whether some row, of this side if one is told, has a text that begins with these words."""
    for ending in ENDINGS:
        row = row_of_words(words + ending)
        if row is not None and (side is None or side in row.sides()):
            return True
    return False
