"""The looker at judgements: it does each step of each picture of a table, or plays a run, and searches nothing."""

from markedpair.guides import Guide
from markedpair.judged import Broken, Kept
from markedpair.links import need_link
from markedpair.plays import Board
from markedpair.scenes import is_in_order, last_scene
from markedpair.searches import MOST_PICTURES
from markedpair.sights import sight_from
from markedpair.steps import is_step


def shows_judged(link, value):
    """Whether any value is a Kept or a Broken that is right for the link."""
    need_link(link, "link")
    if isinstance(value, Kept):
        guide = Guide(link)
        return is_closed_table(guide, value.one, 1) and is_closed_table(guide, value.two, 2)
    return isinstance(value, Broken) and is_breaking(Board(link), value.steps)


def is_closed_table(guide, value, marks):
    """Whether any value is a tuple of not too many pictures that is a closed table for so many marks."""
    if not is_short_tuple(value):
        return False
    sights = sights_of(guide.board, value, marks)
    return sights is not None and is_closed(guide, sights, marks)


def is_short_tuple(value):
    """Whether any value is a tuple with no more items than a looker goes through."""
    return isinstance(value, tuple) and len(value) <= MOST_PICTURES


def is_closed(guide, sights, marks):
    """Whether these pictures, the keys of a dict, are a closed table for so many marks."""
    if guide.first_sight() not in sights:
        return False
    for sight in sights:
        for _, _, then, breaks in guide.turns_of(marks, sight):
            if breaks or then is not None and then not in sights:
                return False
    return True


def is_ascending(texts):
    """Whether these strings are ascending."""
    return all([texts[at - 1] < texts[at] for at in range(1, len(texts))])


def sights_of(board, table, marks):
    """The dict from pictures with so many marks to their texts; None for any value that is no tuple of such texts."""
    if not isinstance(table, tuple):
        return None
    sights = {}
    for text in table:
        found = sight_from(board, text)
        if found is None or found[0] != marks:
            return None
        sights[found[1]] = text
    return sights


def are_steps(value):
    """Whether any value is a tuple of steps that a looker goes through."""
    return is_short_tuple(value) and all([is_step(step) for step in value])


def is_breaking(board, steps):
    """Whether any value is a tuple of the steps of a run, one of which breaks."""
    if not are_steps(steps):
        return False
    scene = last_scene(board, steps)
    return scene is not None and not is_in_order(scene.given)
