"""Reads the lines that a desk carries out."""

from markedpair.channels import channel_from
from markedpair.ends import rows_from
from markedpair.errors import BadCommand, BadText
from markedpair.steps import step_from
from markedpair.words import Words

# What stands behind the first word of a line. "new" and "other" are names to be bound, the second one unlike the
# first one; names of KINDS are those of things of this kind that are there, "any" those of things of each kind.
FORMS = {
    "sender": ("new", "sender rows"),
    "receiver": ("new", "receiver rows"),
    "channel": ("new", "channel text"),
    "one": ("new", "other", "numbers"),
    "all": ("new", "other", "window", "numbers"),
    "each": ("new", "other", "lesser window", "numbers"),
    "link": ("new", "sender", "receiver", "channel", "channel"),
    "run": ("new", "link", "count"),
    "drop": ("any",),
    "undo": (),
    "do": ("run", "step text"),
    "show": ("any",),
    "out": ("run",),
    "open": ("run",),
    "seen": ("run",),
    "judge": ("link",),
    "way": ("link",),
    "going": ("link",),
    "idle": ("link",),
    "log": ("run",),
}
KINDS = ("sender", "receiver", "channel", "link", "run", "any")
# The least and the greatest count.
COUNTS = {"numbers": (1, 6), "window": (1, 3), "lesser window": (1, 2), "count": (0, 100)}


class Command:
    """A line that is read: its first word, and what it tells behind it by the slots of its form."""

    def __init__(self, word, slots, told):
        self.word = word
        self.slots = slots
        self.told = told


def command_of(line):
    """The command of a line."""
    try:
        return command_from(Words(line))
    except BadText as wrong:
        raise BadCommand(wrong.word) from None


def command_from(words):
    """Reads a command."""
    word = words.one_of(list(FORMS))
    slots = FORMS[word]
    told = []
    for slot in slots:
        told.append(told_from(words, slot, told))
    words.close()
    return Command(word, slots, told)


def told_from(words, slot, ahead):
    """Reads what a slot tells, behind what those ahead of it tell."""
    if slot in COUNTS:
        least, most = COUNTS[slot]
        return words.integer(least, most)
    if slot == "sender rows":
        return rows_from(words, "sender")
    if slot == "receiver rows":
        return rows_from(words, "receiver")
    if slot == "channel text":
        return channel_from(words)
    if slot == "step text":
        return step_from(words)
    return words.name_besides(ahead if slot == "other" else [])
