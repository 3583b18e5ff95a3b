"""The looker at judgements: it does each step of each picture of a table, or plays a run, and searches nothing."""

from markedpair.judged import Broken, Kept
from markedpair.links import need_link
from markedpair.plays import Board
from markedpair.scenes import is_in_order, last_scene
from markedpair.searches import MOST_PICTURES
from markedpair.sights import first_sight, sight_from, turns_of
from markedpair.steps import is_step


def shows_judged(link, value):
    """Whether any value is a Kept or a Broken that is right for the link."""
    need_link(link, "link")
    board = Board(link)
    if isinstance(value, Kept):
        return is_closed_table(board, value.one, 1) and is_closed_table(board, value.two, 2)
    return isinstance(value, Broken) and is_breaking(board, value.steps)


def is_closed_table(board, value, marks):
    """Whether any value is a tuple of not too many pictures that is a closed table for so many marks."""
    if not is_short_tuple(value):
        return False
    sights = sights_of(board, value, marks)
    return sights is not None and is_closed(board, sights, marks)


def is_short_tuple(value):
    """Whether any value is a tuple with no more items than a looker goes through."""
    return isinstance(value, tuple) and len(value) <= MOST_PICTURES


def is_closed(board, sights, marks):
    """Whether these pictures, by their texts, are a closed table for so many marks."""
    if first_sight(board, marks).text not in sights:
        return False
    return all([leads_into(turn, sights) for sight in sights.values() for turn in turns_of(board, sight)])


def is_ascending(texts):
    """Whether these strings are ascending."""
    return all([texts[at - 1] < texts[at] for at in range(1, len(texts))])


def sights_of(board, table, marks):
    """The dict from texts to pictures with so many marks; None for any value that is no tuple of such texts."""
    if not isinstance(table, tuple):
        return None
    sights = {}
    for text in table:
        sight = sight_from(board, text)
        if sight is None or sight.marks != marks:
            return None
        sights[text] = sight
    return sights


def leads_into(turn, sights):
    """Whether a turn does not break, and leads to one of these pictures or to what is over."""
    return not turn.breaks and (turn.then is None or turn.then.text in sights)


def are_steps(value):
    """Whether any value is a tuple of steps that a looker goes through."""
    return is_short_tuple(value) and all([is_step(step) for step in value])


def is_breaking(board, steps):
    """Whether any value is a tuple of the steps of a run, one of which breaks."""
    if not are_steps(steps):
        return False
    scene = last_scene(board, steps)
    return scene is not None and not is_in_order(scene.given)
