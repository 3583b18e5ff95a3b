"""Runs step by step, with the places of messages as messages; and the pictures of runs."""

from markedpair.plays import Moment, play
from markedpair.sights import BLANK, MARKS, is_over, sight_of, text_of


class Scene:
    """A run behind a step: the step, the moment, how many messages were taken, the places of those handed out."""

    def __init__(self, step, moment, taken, given):
        self.step = step
        self.moment = moment
        self.taken = taken
        self.given = given


def first_scene(board):
    """A run at the beginning."""
    return Scene(None, board.beginning(), 0, ())


def scene_behind(scene, step, outcome):
    """The run behind a further step with this outcome."""
    taken = scene.taken + 1 if outcome.taking else scene.taken
    return Scene(step, outcome.moment, taken, scene.given + tuple(outcome.given))


def last_scene(board, steps):
    """The run behind these steps, with a next message at any time; None if one of them cannot be done."""
    scene = first_scene(board)
    for step in steps:
        outcome = play(board, scene.moment, step, scene.taken)
        if outcome.word is not None:
            return None
        scene = scene_behind(scene, step, outcome)
    return scene


def is_in_order(places):
    """Whether these places, in the order in which their messages were handed out, are 0, 1, 2 .."""
    return places == tuple(range(len(places)))


def picture_behind(scene, marked):
    """The picture of a run with marks at these places, ascending; None if it is over."""
    stage = len([place for place in marked if place < scene.taken])
    if len(marked) > 0 and marked[0] in scene.given:
        if len(marked) == 2:
            return None
        stage = 2
    sight = sight_of(stage, signed(scene.moment, marked))
    return None if is_over(len(marked), sight) else text_of(len(marked), sight)


def signed(moment, marked):
    """The moment with signs in the place of the places of messages."""
    ends = []
    for state, boxes in (moment.sender, moment.receiver):
        ends.append((state, tuple([sign_of(place, marked) for place in boxes])))
    letters = tuple([(number, sign_of(place, marked)) for number, place in moment.down])
    return Moment(ends[0], ends[1], letters, moment.up)


def sign_of(place, marked):
    """The sign of the message at a place; None stays None."""
    if place is None:
        return None
    return MARKS[marked.index(place)] if place in marked else BLANK
