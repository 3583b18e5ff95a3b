"""The faults of one channel that a link bears: the greatest kept channels, and the least broken ones."""

from markedpair.channels import channels_of
from markedpair.errors import BadLink
from markedpair.judged import judge
from markedpair.links import need_link
from markedpair.searches import need_limit
from markedpair.steps import WAYS


class Borne:
    """A paper: pairs (channel, paper) of the greatest channels that are kept, and of the least ones that are not."""

    def __init__(self, kept, broken):
        self.kept = kept
        self.broken = broken

    def __eq__(self, other):
        return isinstance(other, Borne) and self.kept == other.kept and self.broken == other.broken


def need_way(value):
    """Refuses any value that is no way."""
    if value not in WAYS:
        raise BadLink("way")


def channel_of_way(link, way):
    """The channel of a link on this way."""
    return link.down if way == "down" else link.up


def link_with(link, way, channel):
    """The link with another channel on this way."""
    return link.with_channels(down=channel) if way == "down" else link.with_channels(up=channel)


def borne(link, way, limit=5000):
    """The greatest channels with which a link is kept, and the least ones with which it is broken."""
    need_link(link, "link")
    need_way(way)
    need_limit(limit)
    capacity = channel_of_way(link, way).capacity
    kept, broken = [], []
    for channel in channels_of(capacity):
        if not any([lesser.within(channel) for lesser, _ in broken]):
            paper = judge(link_with(link, way, channel), limit)
            if paper:
                kept.append((channel, paper))
            else:
                broken.append((channel, paper))
    return Borne(tuple(greatest(kept)), tuple(broken))


def greatest(pairs):
    """Those of these pairs (channel, paper) whose channel is within no other one of them."""
    return [pair for at, pair in enumerate(pairs) if not any([pair[0].within(later[0]) for later in pairs[at + 1:]])]
