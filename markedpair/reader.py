"""Reads the texts of links, steps and verdicts."""

from markedpair.channels import channel_from
from markedpair.checks import SIDES
from markedpair.ends import Receiver, Sender
from markedpair.judged import Broken, Kept
from markedpair.links import Link
from markedpair.rows import row_from
from markedpair.steps import step_from
from markedpair.texts import NO_STEPS, PICTURE_WORDS
from markedpair.words import Page

TABLES = ("one", "two")


def read_link(text):
    """The link with this text."""
    page = Page(text)
    down = channel_of_line(page.next_words(), "down")
    up = channel_of_line(page.next_words(), "up")
    rows = parted_lines(page, SIDES)
    senders, receivers = rows["sender"], rows["receiver"]
    return Link(Sender(*senders), Receiver(*receivers), down, up)


def channel_of_line(words, way):
    """Reads the line of the channel on this way."""
    words.one_of((way,))
    channel = channel_from(words)
    words.close()
    return channel


def parted_lines(page, heads):
    """Reads the lines that are left, behind one of two heads, in this order; by head, the list of what stands there."""
    first, second = heads
    found = {first: [], second: []}
    while page.has_more():
        words = page.next_words()
        head = words.one_of(heads if len(found[second]) == 0 else (second,))
        found[head].append(thing_from(words, head))
        words.close()
    return found


def thing_from(words, head):
    """Reads what stands behind the first word of a line: the words of a picture, whatever they are, or a row."""
    if head in TABLES:
        return " ".join([words.some() for _ in range(PICTURE_WORDS)])
    return row_from(words, (head,))


def read_steps(text):
    """The tuple of the steps with this text."""
    page = Page(text)
    words = page.next_words()
    if not words.ask(NO_STEPS):
        return tuple([step_of_line(words)] + steps_of_lines(page))
    words.close()
    page.close()
    return ()


def step_of_line(words):
    """Reads the line of a step."""
    step = step_from(words)
    words.close()
    return step


def steps_of_lines(page):
    """Reads the lines that are left; the list of their steps."""
    steps = []
    while page.has_more():
        steps.append(step_of_line(page.next_words()))
    return steps


def read_verdict(text):
    """The Kept or Broken with this text."""
    page = Page(text)
    words = page.next_words()
    head = words.one_of(("kept", "broken"))
    words.close()
    if head == "broken":
        return Broken(tuple(steps_of_lines(page)))
    tables = parted_lines(page, TABLES)
    return Kept(tuple(tables["one"]), tuple(tables["two"]))
