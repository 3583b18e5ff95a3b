"""The looker at papers about going on: it looks at each change of each picture, plays a run, and searches nothing."""

from markedpair.checks import is_integer
from markedpair.going import Goes, Stuck, ends_wait, hands_out
from markedpair.links import need_link
from markedpair.look_judged import are_steps, is_ascending, is_short_tuple, sights_of
from markedpair.plays import Board
from markedpair.scenes import last_scene, picture_behind
from markedpair.sights import first_sight, turns_of


def shows_going(link, value):
    """Whether any value is a Goes or a Stuck that shows what it says."""
    need_link(link, "link")
    board = Board(link)
    if isinstance(value, Goes):
        return is_going(board, value.ranks)
    return isinstance(value, Stuck) and is_stuck(board, value)


def waiting_of(board, texts, stages):
    """The dict from texts to pictures with one mark of these stages; None if it is no ascending tuple of such texts."""
    if not is_short_tuple(texts):
        return None
    sights = sights_of(board, texts, 1)
    if sights is None or not is_ascending(texts):
        return None
    if not all([sight.stage in stages for sight in sights.values()]):
        return None
    return sights


def are_pairs(value):
    """Whether any value is a tuple of pairs of any value and an integer from 1 on."""
    if not isinstance(value, tuple) or not all([isinstance(pair, tuple) and len(pair) == 2 for pair in value]):
        return False
    return all([is_integer(rank) and rank >= 1 for _, rank in value])


def is_going(board, value):
    """Whether any value is the tuple of the ranks of a Goes."""
    if not are_pairs(value):
        return False
    sights = waiting_of(board, tuple([text for text, _ in value]), (0, 1))
    if sights is None or first_sight(board, 1).text not in sights:
        return False
    ranks = {text: rank for text, rank in value}
    return all([has_a_way(sight, turns_of(board, sight), ranks) for sight in sights.values()])


def has_a_way(sight, turns, ranks):
    """Whether all turns of a picture lead to ranked ones or hand `a` out, and one without faults leads out."""
    for turn in turns:
        if not hands_out(turn) and turn.then.text not in ranks:
            return False
    calm = [turn for turn in turns if not turn.step.is_fault]
    return any([ends_wait(sight, turn) or ranks[turn.then.text] < ranks[sight.text] for turn in calm])


def is_stuck(board, stuck):
    """Whether a Stuck shows what it says."""
    if not are_steps(stuck.steps):
        return False
    scene = last_scene(board, stuck.steps)
    if scene is None or not is_mark(stuck.mark, scene):
        return False
    sights = waiting_of(board, stuck.lot, (0,) if stuck.mark is None else (1,))
    # Without a mark, the next message stands for one that is not taken yet.
    marked = scene.taken if stuck.mark is None else stuck.mark
    if sights is None or picture_behind(scene, (marked,)) not in sights:
        return False
    return all([stays_in(sight, turn, sights) for sight in sights.values() for turn in turns_of(board, sight)])


def is_mark(value, scene):
    """Whether any value is None, or the place of a message that a run took."""
    return value is None or is_integer(value) and 0 <= value < scene.taken


def stays_in(sight, turn, sights):
    """Whether a turn has a fault, or leads to one of these pictures and does not end the wait."""
    if turn.step.is_fault:
        return True
    return not ends_wait(sight, turn) and turn.then.text in sights
