"""The looker at papers about going on: it looks at each change of each picture, plays a run, and searches nothing."""

from markedpair.checks import is_integer
from markedpair.going import Goes, Stuck, ends_wait, hands_out
from markedpair.guides import Guide
from markedpair.links import need_link
from markedpair.look_judged import are_steps, is_ascending, is_short_tuple, sights_of
from markedpair.scenes import last_scene, picture_behind


def shows_going(link, value):
    """Whether any value is a Goes or a Stuck that shows what it says."""
    need_link(link, "link")
    guide = Guide(link)
    if isinstance(value, Goes):
        return is_going(guide, value.ranks)
    return isinstance(value, Stuck) and is_stuck(guide, value)


def waiting_of(board, texts, stages):
    """The dict from pictures with one mark of these stages to texts; None if it is no ascending tuple of such texts."""
    if not is_short_tuple(texts):
        return None
    sights = sights_of(board, texts, 1)
    if sights is None or not is_ascending(texts):
        return None
    return sights if all([sight[0] in stages for sight in sights]) else None


def are_pairs(value):
    """Whether any value is a tuple of pairs of any value and an integer from 1 on."""
    if not isinstance(value, tuple) or not all([isinstance(pair, tuple) and len(pair) == 2 for pair in value]):
        return False
    return all([is_integer(rank) and rank >= 1 for _, rank in value])


def is_going(guide, value):
    """Whether any value is the tuple of the ranks of a Goes."""
    if not are_pairs(value):
        return False
    sights = waiting_of(guide.board, tuple([text for text, _ in value]), (0, 1))
    if sights is None or guide.first_sight() not in sights:
        return False
    told = {text: rank for text, rank in value}
    ranks = {sight: told[sights[sight]] for sight in sights}
    return all([has_a_way(sight, guide.turns_of(1, sight), ranks) for sight in sights])


def has_a_way(sight, turns, ranks):
    """Whether all turns of a picture lead to ranked ones or hand `a` out, and one without faults leads out."""
    for _, _, then, _ in turns:
        if not hands_out(then) and then not in ranks:
            return False
    calm = [(sign, then) for step, sign, then, _ in turns if not step.is_fault]
    return any([ends_wait(sight, sign, then) or ranks[then] < ranks[sight] for sign, then in calm])


def is_stuck(guide, stuck):
    """Whether a Stuck shows what it says."""
    if not are_steps(stuck.steps):
        return False
    scene = last_scene(guide.board, stuck.steps)
    if scene is None or not is_mark(stuck.mark, scene):
        return False
    sights = waiting_of(guide.board, stuck.lot, (0,) if stuck.mark is None else (1,))
    # Without a mark, the next message stands for one that is not taken yet.
    marked = scene.taken if stuck.mark is None else stuck.mark
    if sights is None or picture_behind(scene, (marked,)) not in stuck.lot:
        return False
    return all([stays_in(sight, turn, sights) for sight in sights for turn in guide.turns_of(1, sight)])


def is_mark(value, scene):
    """Whether any value is None, or the place of a message that a run took."""
    return value is None or is_integer(value) and 0 <= value < scene.taken


def stays_in(sight, turn, sights):
    """Whether a turn has a fault, or leads to one of these pictures and does not end the wait."""
    step, sign, then, _ = turn
    return step.is_fault or not ends_wait(sight, sign, then) and then in sights
