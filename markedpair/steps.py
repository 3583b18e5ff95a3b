"""The steps of runs, and their texts."""

from markedpair.checks import is_side, is_within
from markedpair.errors import BadStep
from markedpair.words import Words

LAST_ROW = 119
LAST_PLACE = 2
WAYS = ("down", "up")


def need(holds, part):
    """Refuses a part of a step unless this holds."""
    if not holds:
        raise BadStep(part)


class Step:
    """The base of the three kinds of steps."""

    @property
    def is_fault(self):
        """Whether it is a step with a fault."""
        return False

    def __eq__(self, other):
        return isinstance(other, Step) and str(self) == str(other)

    def __str__(self):
        return ""

    @classmethod
    def read(cls, text):
        """The step with this text."""
        words = Words(text)
        step = step_from(words)
        words.close()
        return step


class Act(Step):
    """A row that hears nothing is done."""

    def __init__(self, side, at):
        need(is_side(side), "side")
        need(is_within(at, 0, LAST_ROW), "at")
        self.side = side
        self.at = at

    @property
    def is_fault(self):
        """Whether it is a step with a fault."""
        return False

    def __eq__(self, other):
        return isinstance(other, Act) and self.side == other.side and self.at == other.at

    def __str__(self):
        return f"{self.side} {self.at}"


class Hear(Step):
    """A row that hears is done, with what lies at a place of its channel."""

    def __init__(self, side, at, place=0, stays=False):
        need(is_side(side), "side")
        need(is_within(at, 0, LAST_ROW), "at")
        need(is_within(place, 0, LAST_PLACE), "place")
        need(isinstance(stays, bool), "stays")
        self.side = side
        self.at = at
        self.place = place
        self.stays = stays

    @property
    def is_fault(self):
        """Whether it is a step with a fault."""
        return self.place > 0 or self.stays

    def __eq__(self, other):
        if not isinstance(other, Hear) or self.side != other.side or self.at != other.at:
            return False
        return self.place == other.place and self.stays == other.stays

    def __str__(self):
        if self.stays:
            return f"{self.side} {self.at} place {self.place} stays"
        return f"{self.side} {self.at} place {self.place}"


class Lose(Step):
    """What lies at a place of a channel vanishes."""

    def __init__(self, way, place):
        need(way in WAYS, "way")
        need(is_within(place, 0, LAST_PLACE), "place")
        self.way = way
        self.place = place

    @property
    def is_fault(self):
        """Whether it is a step with a fault."""
        return True

    def __eq__(self, other):
        return isinstance(other, Lose) and self.way == other.way and self.place == other.place

    def __str__(self):
        return f"lose {self.way} {self.place}"


def is_step(value):
    """Whether any value is a step of one of the three kinds."""
    return isinstance(value, (Act, Hear, Lose))


def step_from(words):
    """Reads a step."""
    first = words.one_of(("sender", "receiver", "lose"))
    if first == "lose":
        way = words.one_of(WAYS)
        return Lose(way, words.integer(0, LAST_PLACE))
    at = words.integer(0, LAST_ROW)
    if not words.ask("place"):
        return Act(first, at)
    place = words.integer(0, LAST_PLACE)
    return Hear(first, at, place, words.ask("stays"))
