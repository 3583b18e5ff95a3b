"""The deeds of rows: seven kinds, and their texts.

Each kind has all methods in its own body, as the interface asks for.
"""

from markedpair.checks import LAST_BOX, LAST_NUMBER, ascending, is_box, is_number
from markedpair.errors import BadDeed
from markedpair.words import Words

# The sides whose rows can have a deed, by its first word.
VERBS = {
    "take": ("sender",),
    "send": ("sender",),
    "put": ("receiver",),
    "out": ("receiver",),
    "answer": ("receiver",),
    "move": ("sender", "receiver"),
    "clear": ("sender", "receiver"),
}


def verb_is_for(verb, side):
    """Whether any value is a side whose rows can have a deed with this first word."""
    return side in VERBS[verb]


def told_box(box):
    """The box, if it is one."""
    if not is_box(box):
        raise BadDeed("box")
    return box


def told_number(number):
    """The number, if it is one."""
    if not is_number(number):
        raise BadDeed("number")
    return number


class Deed:
    """The base of the seven kinds of deeds; it is not made itself."""

    def verb(self):
        """The first word of its text."""
        return ""

    def is_for(self, side):
        """Whether any value is a side whose rows can have it."""
        return False

    def named_boxes(self):
        """The ascending tuple of the boxes that it names."""
        return ()

    def named_numbers(self):
        """The tuple of its number, () without one."""
        return ()

    def renumbered(self, table):
        """The deed with table[n] in the place of its number n."""
        return self

    def __eq__(self, other):
        return isinstance(other, Deed) and str(self) == str(other)

    def __str__(self):
        return ""

    @classmethod
    def read(cls, text):
        """The deed with this text."""
        words = Words(text)
        deed = deed_from(words, list(VERBS))
        words.close()
        return deed


class Take(Deed):
    """The next message is taken into a box."""

    def __init__(self, box):
        self.box = told_box(box)

    def verb(self):
        return "take"

    def is_for(self, side):
        return verb_is_for("take", side)

    def named_boxes(self):
        return (self.box,)

    def named_numbers(self):
        return ()

    def renumbered(self, table):
        return self

    def __eq__(self, other):
        return isinstance(other, Take) and self.box == other.box

    def __str__(self):
        return f"take {self.box}"


class Send(Deed):
    """A copy of a box is sent as a letter with a number."""

    def __init__(self, box, number):
        self.box = told_box(box)
        self.number = told_number(number)

    def verb(self):
        return "send"

    def is_for(self, side):
        return verb_is_for("send", side)

    def named_boxes(self):
        return (self.box,)

    def named_numbers(self):
        return (self.number,)

    def renumbered(self, table):
        return Send(self.box, table[self.number])

    def __eq__(self, other):
        return isinstance(other, Send) and self.box == other.box and self.number == other.number

    def __str__(self):
        return f"send {self.box} {self.number}"


class Put(Deed):
    """The message that is heard is put into a box."""

    def __init__(self, box):
        self.box = told_box(box)

    def verb(self):
        return "put"

    def is_for(self, side):
        return verb_is_for("put", side)

    def named_boxes(self):
        return (self.box,)

    def named_numbers(self):
        return ()

    def renumbered(self, table):
        return self

    def __eq__(self, other):
        return isinstance(other, Put) and self.box == other.box

    def __str__(self):
        return f"put {self.box}"


class Out(Deed):
    """The message in a box is handed out, and the box is empty."""

    def __init__(self, box):
        self.box = told_box(box)

    def verb(self):
        return "out"

    def is_for(self, side):
        return verb_is_for("out", side)

    def named_boxes(self):
        return (self.box,)

    def named_numbers(self):
        return ()

    def renumbered(self, table):
        return self

    def __eq__(self, other):
        return isinstance(other, Out) and self.box == other.box

    def __str__(self):
        return f"out {self.box}"


class Answer(Deed):
    """A number is sent as an answer."""

    def __init__(self, number):
        self.number = told_number(number)

    def verb(self):
        return "answer"

    def is_for(self, side):
        return verb_is_for("answer", side)

    def named_boxes(self):
        return ()

    def named_numbers(self):
        return (self.number,)

    def renumbered(self, table):
        return Answer(table[self.number])

    def __eq__(self, other):
        return isinstance(other, Answer) and self.number == other.number

    def __str__(self):
        return f"answer {self.number}"


class Move(Deed):
    """The message in a box is put into another one, and the box is empty."""

    def __init__(self, box, to):
        self.box = told_box(box)
        if not is_box(to) or to == box:
            raise BadDeed("to")
        self.to = to

    def verb(self):
        return "move"

    def is_for(self, side):
        return verb_is_for("move", side)

    def named_boxes(self):
        return ascending((self.box, self.to), LAST_BOX)

    def named_numbers(self):
        return ()

    def renumbered(self, table):
        return self

    def __eq__(self, other):
        return isinstance(other, Move) and self.box == other.box and self.to == other.to

    def __str__(self):
        return f"move {self.box} {self.to}"


class Clear(Deed):
    """A box is empty."""

    def __init__(self, box):
        self.box = told_box(box)

    def verb(self):
        return "clear"

    def is_for(self, side):
        return verb_is_for("clear", side)

    def named_boxes(self):
        return (self.box,)

    def named_numbers(self):
        return ()

    def renumbered(self, table):
        return self

    def __eq__(self, other):
        return isinstance(other, Clear) and self.box == other.box

    def __str__(self):
        return f"clear {self.box}"


def deed_from(words, verbs):
    """Reads a deed with one of these verbs."""
    verb = words.one_of(verbs)
    if verb == "answer":
        return Answer(words.integer(0, LAST_NUMBER))
    box = words.integer(0, LAST_BOX)
    if verb == "send":
        return Send(box, words.integer(0, LAST_NUMBER))
    if verb == "move":
        others = [str(to) for to in range(LAST_BOX + 1) if to != box]
        return Move(box, int(words.one_of(others)))
    return deed_of_box(verb, box)


def deed_of_box(verb, box):
    """The deed of a verb that names one box and nothing else."""
    if verb == "take":
        return Take(box)
    if verb == "put":
        return Put(box)
    if verb == "out":
        return Out(box)
    return Clear(box)
