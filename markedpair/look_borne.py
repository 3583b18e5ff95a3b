"""The looker at papers about borne faults: it looks at each judgement, and at what the channels cover."""

from markedpair.borne import Borne, channel_of_way, link_with, need_way
from markedpair.channels import Channel, channels_of
from markedpair.judged import Broken, Kept
from markedpair.links import need_link
from markedpair.look_judged import shows_judged


def shows_borne(link, way, value):
    """Whether any value is a Borne that shows what it says."""
    need_link(link, "link")
    need_way(way)
    if not isinstance(value, Borne):
        return False
    capacity = channel_of_way(link, way).capacity
    channels = list(channels_of(capacity))
    if not is_list_of(value.kept, channels) or not is_list_of(value.broken, channels):
        return False
    if not all([is_covered(channel, value) for channel in channels]):
        return False
    if not all([isinstance(paper, Kept) for _, paper in value.kept]):
        return False
    if not all([isinstance(paper, Broken) for _, paper in value.broken]):
        return False
    return all([shows_judged(link_with(link, way, channel), paper) for channel, paper in value.kept + value.broken])


def is_list_of(value, channels):
    """Whether any value is a tuple of pairs of such channels and any values, in order, none within another one."""
    if not isinstance(value, tuple) or len(value) > len(channels):
        return False
    if not all([isinstance(pair, tuple) and len(pair) == 2 and is_one_of(pair[0], channels) for pair in value]):
        return False
    places = [channels.index(channel) for channel, _ in value]
    return all([goes_behind(channels, one, other) for at, other in enumerate(places) for one in places[:at]])


def is_one_of(value, channels):
    """Whether any value is one of these channels."""
    return isinstance(value, Channel) and value in channels


def goes_behind(channels, one, other):
    """Whether the second place is behind the first one, and neither channel is within the other one."""
    # A channel comes behind all channels within it, so only one direction is left.
    return one < other and not channels[one].within(channels[other])


def is_covered(channel, found):
    """Whether a channel is within a kept one, or has a broken one within it."""
    if any([channel.within(greater) for greater, _ in found.kept]):
        return True
    return any([lesser.within(channel) for lesser, _ in found.broken])
