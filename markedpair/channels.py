"""Channels and their faults, and their texts."""

from markedpair.checks import is_within
from markedpair.errors import BadChannel, BadCount
from markedpair.words import Words

MOST_OVERTAKEN = 2


class Fault:
    """The base of the three kinds of faults."""

    def __eq__(self, other):
        return isinstance(other, Fault) and str(self) == str(other)

    def __str__(self):
        return ""


class Loses(Fault):
    """What a channel holds can vanish."""

    ORDER = 0

    def __eq__(self, other):
        return isinstance(other, Loses)

    def __str__(self):
        return "loses"


class Doubles(Fault):
    """What is heard can stay in the channel."""

    ORDER = 1

    def __eq__(self, other):
        return isinstance(other, Doubles)

    def __str__(self):
        return "doubles"


class Overtakes(Fault):
    """What is heard can have passed this many older ones."""

    ORDER = 2

    def __init__(self, by):
        if not is_within(by, 1, MOST_OVERTAKEN):
            raise BadChannel("by")
        self.by = by

    def __eq__(self, other):
        return isinstance(other, Overtakes) and self.by == other.by

    def __str__(self):
        return f"overtakes {self.by}"


def is_kind(value):
    """Whether any value is a fault of one of the three kinds."""
    return isinstance(value, (Loses, Doubles, Overtakes))


def told_faults(faults):
    """The tuple of these faults in their order, if a channel can have them."""
    if not all([is_kind(fault) for fault in faults]):
        raise BadChannel("faults")
    if len(set([fault.ORDER for fault in faults])) < len(faults):
        raise BadChannel("faults")
    return tuple([fault for order in range(3) for fault in faults if fault.ORDER == order])


def made_channel(capacity, loses, doubles, overtakes):
    """The channel of this capacity with these faults; 0 stands for no overtaking."""
    faults = []
    if loses:
        faults.append(Loses())
    if doubles:
        faults.append(Doubles())
    if overtakes > 0:
        faults.append(Overtakes(overtakes))
    return Channel(capacity, *faults)


class Channel:
    """A channel: how many letters or answers it holds, and its faults."""

    MOST = 3

    def __init__(self, capacity, *faults):
        if not is_within(capacity, 1, Channel.MOST):
            raise BadChannel("capacity")
        self.capacity = capacity
        self.faults = told_faults(faults)

    @property
    def loses(self):
        """Whether what it holds can vanish."""
        return Loses() in self.faults

    @property
    def doubles(self):
        """Whether what is heard can stay."""
        return Doubles() in self.faults

    @property
    def overtakes(self):
        """How many older ones can be passed."""
        return sum([fault.by for fault in self.faults if isinstance(fault, Overtakes)])

    def __iter__(self):
        return iter(self.faults)

    def __contains__(self, x):
        if isinstance(x, Overtakes):
            return x.by <= self.overtakes
        return is_kind(x) and x in self.faults

    def __add__(self, other):
        if not is_kind(other):
            raise BadChannel("fault")
        return self | Channel(self.capacity, other)

    def __sub__(self, other):
        if not is_kind(other):
            raise BadChannel("fault")
        faults = [fault for fault in self.faults if fault.ORDER != other.ORDER]
        return Channel(self.capacity, *faults)

    def __and__(self, other):
        need_channel(other)
        loses = self.loses and other.loses
        doubles = self.doubles and other.doubles
        # int: where a class has an order, min and max take what is plainly a number.
        overtakes = min(int(self.overtakes), int(other.overtakes))
        return made_channel(min(int(self.capacity), int(other.capacity)), loses, doubles, overtakes)

    def __or__(self, other):
        need_channel(other)
        loses = self.loses or other.loses
        doubles = self.doubles or other.doubles
        overtakes = max(int(self.overtakes), int(other.overtakes))
        return made_channel(max(int(self.capacity), int(other.capacity)), loses, doubles, overtakes)

    def within(self, other):
        """Whether its capacity is not greater, and the other one lets all its faults."""
        need_channel(other)
        return self.capacity <= other.capacity and all([fault in other for fault in self.faults])

    def __eq__(self, other):
        return isinstance(other, Channel) and self.capacity == other.capacity and self.faults == other.faults

    def __str__(self):
        return " ".join([str(part) for part in (self.capacity, *self.faults)])

    @classmethod
    def read(cls, text):
        """The channel with this text."""
        words = Words(text)
        channel = channel_from(words)
        words.close()
        return channel


def need_channel(value):
    """Refuses any value that is no channel."""
    if not isinstance(value, Channel):
        raise BadChannel("other")


def channel_from(words):
    """Reads a channel."""
    capacity = words.integer(1, Channel.MOST)
    loses = words.ask("loses")
    doubles = words.ask("doubles")
    overtakes = 0
    if words.ask("overtakes"):
        overtakes = words.integer(1, MOST_OVERTAKEN)
    return made_channel(capacity, loses, doubles, overtakes)


def channels_of(capacity):
    """The twelve channels of this capacity, each behind those that are within it."""
    if not is_within(capacity, 1, Channel.MOST):
        raise BadCount(capacity)
    for loses in (False, True):
        for doubles in (False, True):
            for overtakes in range(MOST_OVERTAKEN + 1):
                yield made_channel(capacity, loses, doubles, overtakes)
