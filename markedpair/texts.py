"""The texts of links, steps and verdicts: lines of words."""

from markedpair.errors import BadLink, BadRun
from markedpair.judged import Broken, Kept
from markedpair.links import need_link
from markedpair.steps import is_step

NO_STEPS = "-"
PICTURE_WORDS = 8


def joined(texts, sign):
    """These texts with a sign between them; `-` without any."""
    return sign.join(texts) if len(texts) > 0 else NO_STEPS


def link_text(link):
    """The text of a link."""
    need_link(link, "link")
    lines = [f"down {str(link.down)}", f"up {str(link.up)}"]
    for end in (link.sender, link.receiver):
        lines.extend([f"{end.SIDE} {str(row)}" for row in end])
    return "\n".join(lines)


def steps_text(steps):
    """The text of steps."""
    if not isinstance(steps, (list, tuple)) or not all_steps(steps):
        raise BadRun("steps")
    return joined([str(step) for step in steps], "\n")


def all_steps(values):
    """Whether these are steps."""
    return all([is_step(value) for value in values])


def verdict_text(verdict):
    """The text of a Kept or a Broken."""
    if isinstance(verdict, Kept) and are_pictures(verdict.one) and are_pictures(verdict.two):
        lines = ["kept"]
        lines.extend([f"one {picture}" for picture in verdict.one])
        lines.extend([f"two {picture}" for picture in verdict.two])
        return "\n".join(lines)
    if isinstance(verdict, Broken) and isinstance(verdict.steps, tuple) and all_steps(verdict.steps):
        return "\n".join(["broken"] + [str(step) for step in verdict.steps])
    raise BadLink("verdict")


def are_pictures(value):
    """Whether any value is a tuple of strings that can stand in lines as pictures."""
    return isinstance(value, tuple) and all([is_picture_text(text) for text in value])


def is_picture_text(value):
    """Whether any value is a string with as many words as a picture, none empty, on one line."""
    if not isinstance(value, str) or "\n" in value:
        return False
    words = value.split(" ")
    return len(words) == PICTURE_WORDS and "" not in words
