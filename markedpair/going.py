"""Whether links go on: ways of steps without faults out of each wait, or a wait that no such way ends."""

from markedpair.judged import Verdict
from markedpair.links import need_link
from markedpair.plays import Board
from markedpair.searches import Search, need_limit


class Goes(Verdict):
    """A paper: a link goes on, shown by the pairs of all waiting pictures and their ranks."""

    def __init__(self, ranks):
        self.ranks = ranks

    def __eq__(self, other):
        return isinstance(other, Goes) and self.ranks == other.ranks

    def __bool__(self):
        return True


class Stuck(Verdict):
    """A paper: a link does not go on, shown by a run, its marked message and the pictures that it cannot leave."""

    def __init__(self, steps, mark, lot):
        self.steps = steps
        self.mark = mark
        self.lot = lot

    def __eq__(self, other):
        if not isinstance(other, Stuck) or self.steps != other.steps:
            return False
        return self.mark == other.mark and self.lot == other.lot

    def __bool__(self):
        return False


def hands_out(turn):
    """Whether a turn of a waiting picture hands `a` out."""
    # It is so exactly if what is behind it breaks, is over, or is at stage 2.
    return turn.then is None or turn.then.stage == 2


def ends_wait(sight, turn):
    """Whether a turn of a waiting picture does what the picture waits for."""
    return turn.sign is not None if sight.stage == 0 else hands_out(turn)


class Waits:
    """The waiting pictures so far: those whose wait one step without faults ends, and how such steps link the others.

    By the text of a picture: behind it stand those to which a step leads, ahead of it those from which one leads.
    """

    def __init__(self):
        self.ending = {}
        self.ahead = {}
        self.behind = {}

    def note(self, sight, turn):
        """Looks at a turn of a waiting picture."""
        if turn.step.is_fault:
            return
        if ends_wait(sight, turn):
            self.ending[sight.text] = True
        else:
            self.behind.setdefault(sight.text, []).append(turn.then.text)
            self.ahead.setdefault(turn.then.text, []).append(sight.text)

    def all_ranks(self):
        """The dict from pictures to ranks, of those that have a rank."""
        found = {text: 1 for text in self.ending}
        level = list(self.ending)
        while len(level) > 0:
            level = spread(level, self.ahead, found)
        return found

    def lot_of(self, text):
        """The ascending tuple of the pictures to which steps without faults lead from a picture without a rank."""
        found = {text: 1}
        level = [text]
        while len(level) > 0:
            level = spread(level, self.behind, found)
        return tuple(sorted([str(other) for other in found]))


def spread(level, links, found):
    """The pictures that are linked to those of a level and are new; they get the next rank."""
    new = []
    for text in level:
        for other in links.get(text, []):
            if other not in found:
                found[other] = found[text] + 1
                new.append(other)
    return new


def goes_on(link, limit=5000):
    """A Goes with the ranks of all waiting pictures, or a Stuck with a shortest run to one without a rank."""
    need_link(link, "link")
    need_limit(limit)
    search = Search(Board(link), 1, 1)
    waits = Waits()
    while len(search.level) > 0:
        for sight, turn in search.advance():
            waits.note(sight, turn)
        search.need_at_most(limit)
    ranks = waits.all_ranks()
    for text in search.before:
        # The texts stand there level by level, so the first one has a shortest run.
        if text not in ranks:
            return stuck_at(search, text, waits.lot_of(text))
    return Goes(tuple([(text, ranks[text]) for text in search.pictures()]))


def stuck_at(search, text, lot):
    """The Stuck of a picture without a rank."""
    turns = search.turns_to(text)
    taken = [turn.sign for turn in turns if turn.sign is not None]
    mark = taken.index("a") if "a" in taken else None
    return Stuck(tuple([turn.step for turn in turns]), mark, lot)
