"""Benches: a sender and a receiver under change."""

from markedpair.checks import is_side, is_within
from markedpair.ends import End, Receiver, Sender
from markedpair.errors import BadBench, BadCount, Nothing, TooMany
from markedpair.trials import Trial


def need_side(side):
    """Refuses any value that is no side."""
    if not is_side(side):
        raise BadBench("side")


def need_key(key):
    """Refuses any value that is no pair of a side and any value."""
    if not isinstance(key, tuple) or len(key) != 2:
        raise BadBench("key")
    need_side(key[0])


class Stand:
    """How a bench stands: its pair of ends, its room, and what can be taken back: pairs (word, ends ahead of it)."""

    def __init__(self, pair, most, past):
        self.pair = pair
        self.most = most
        self.past = past


class Bench:
    """A sender and a receiver under change."""

    def __init__(self, sender, receiver):
        if not isinstance(sender, Sender):
            raise BadBench("sender")
        if not isinstance(receiver, Receiver):
            raise BadBench("receiver")
        self.story = Stand((sender, receiver), End.MOST, ())

    def end_at(self, side):
        """The end on this side."""
        sender, receiver = self.story.pair
        return sender if side == "sender" else receiver

    def change(self, word, end):
        """Puts an end in the place of that of its side."""
        sender, receiver = self.story.pair
        pair = (end, receiver) if end.SIDE == "sender" else (sender, end)
        self.story = Stand(pair, self.story.most, (*self.story.past, (word, self.story.pair)))

    def add(self, side, row):
        """Puts a row behind the others of an end; returns its index."""
        need_side(side)
        end = self.end_at(side)
        if len(end) >= self.story.most:
            raise TooMany("rows", self.story.most)
        self.change("add", end + row)
        return len(end)

    def drop(self, side, at):
        """Takes a row out of an end and returns it."""
        need_side(side)
        end = self.end_at(side)
        row = end[at]
        self.change("drop", end.without_row(at))
        return row

    def __getitem__(self, at):
        need_key(at)
        side, index = at
        return self.end_at(side)[index]

    def __setitem__(self, at, worth):
        need_key(at)
        side, index = at
        self.change("set", self.end_at(side).with_row(index, worth))

    # A bench has items, but no row of them that could be gone through.
    def __iter__(self):
        raise TypeError("a bench is not iterated over")

    def undo(self):
        """Takes back the last change that is not taken back, and returns its word."""
        if len(self.story.past) == 0:
            raise Nothing()
        word, pair = self.story.past[-1]
        self.story = Stand(pair, self.story.most, self.story.past[:-1])
        return word

    def __len__(self):
        return len(self.story.past)

    def __bool__(self):
        return bool(len(self.story.past) > 0)

    @property
    def room(self):
        """The greatest number of rows of an end."""
        return self.story.most

    @room.setter
    def room(self, value):
        self.make_room(value)

    def make_room(self, number):
        """Sets the greatest number of rows of an end."""
        sender, receiver = self.story.pair
        if not is_within(number, max(len(sender), len(receiver)), End.MOST):
            raise BadCount(number)
        self.story = Stand(self.story.pair, number, self.story.past)

    def ends(self):
        """The pair of the Sender and the Receiver as they are now."""
        return self.story.pair

    def twin(self):
        """A bench with the same ends, room, and what can be taken back, that goes its own way."""
        sender, receiver = self.story.pair
        other = Bench(sender, receiver)
        other.story = self.story
        return other

    def trial(self):
        """A block behind which ends, room, and what can be taken back are as when it began."""
        return Trial(self)

    def tried(self, work):
        """What work(bench) returns, called in a trial."""
        with self.trial() as same:
            return work(same)

    def __eq__(self, other):
        return isinstance(other, Bench) and self.story.pair == other.story.pair
