"""Links: two ends and the two channels between them."""

from markedpair.channels import Channel
from markedpair.checks import LAST_NUMBER, ascending
from markedpair.ends import Receiver, Sender, is_table
from markedpair.errors import BadLink


def need_link(value, part):
    """Refuses any value that is no link."""
    if not isinstance(value, Link):
        raise BadLink(part)


def part_of(table, numbers):
    """The part of a table whose keys are among these numbers."""
    # True equals 1 and stays, too: is_table refuses it.
    return {key: table[key] for key in table if key in numbers}


class Link:
    """A sender and a receiver, with the channel down and the channel up."""

    def __init__(self, sender, receiver, down, up):
        if not isinstance(sender, Sender):
            raise BadLink("sender")
        if not isinstance(receiver, Receiver):
            raise BadLink("receiver")
        if not isinstance(down, Channel):
            raise BadLink("down")
        if not isinstance(up, Channel):
            raise BadLink("up")
        self.sender = sender
        self.receiver = receiver
        self.down = down
        self.up = up

    def mixed(self, other):
        """The link with the receiver of the other one."""
        need_link(other, "other")
        return Link(self.sender, other.receiver, self.down, self.up)

    def within(self, other):
        """Whether the ends are equal, and each channel is within that of the other one."""
        need_link(other, "other")
        if self.sender != other.sender or self.receiver != other.receiver:
            return False
        return self.down.within(other.down) and self.up.within(other.up)

    def with_channels(self, down=None, up=None):
        """The link with other channels; None keeps one."""
        new_down = self.down if down is None else down
        new_up = self.up if up is None else up
        return Link(self.sender, self.receiver, new_down, new_up)

    def renumbered(self, table):
        """The link with table[n] in the place of each number n of both ends."""
        if not isinstance(table, dict):
            raise BadLink("table")
        named = [number for end in (self.sender, self.receiver) for number in end.numbers]
        numbers = ascending(named, LAST_NUMBER)
        if not is_table(part_of(table, numbers), numbers):
            raise BadLink("table")
        sender = self.sender.renumbered(part_of(table, self.sender.numbers))
        receiver = self.receiver.renumbered(part_of(table, self.receiver.numbers))
        return Link(sender, receiver, self.down, self.up)

    def __eq__(self, other):
        if not isinstance(other, Link) or self.sender != other.sender or self.receiver != other.receiver:
            return False
        return self.down == other.down and self.up == other.up
