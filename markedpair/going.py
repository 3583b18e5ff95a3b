"""Whether links go on: ways of steps without faults out of each wait, or a wait that no such way ends."""

from markedpair.guides import Guide
from markedpair.judged import Verdict
from markedpair.links import need_link
from markedpair.searches import Search, need_limit
from markedpair.sights import text_of


class Goes(Verdict):
    """A paper: a link goes on, shown by the pairs of all waiting pictures and their ranks."""

    def __init__(self, ranks):
        self.ranks = ranks

    def __eq__(self, other):
        return isinstance(other, Goes) and self.ranks == other.ranks

    def __bool__(self):
        return True


class Stuck(Verdict):
    """A paper: a link does not go on, shown by a run, its marked message and the pictures that it cannot leave."""

    def __init__(self, steps, mark, lot):
        self.steps = steps
        self.mark = mark
        self.lot = lot

    def __eq__(self, other):
        if not isinstance(other, Stuck) or self.steps != other.steps:
            return False
        return self.mark == other.mark and self.lot == other.lot

    def __bool__(self):
        return False


def hands_out(then):
    """Whether a turn of a waiting picture to this sight, or None, hands `a` out."""
    # It is so exactly if what is behind it breaks, is over, or is at stage 2.
    return then is None or then[0] == 2


def ends_wait(sight, sign, then):
    """Whether a turn of a waiting picture that takes this sign, or None, does what the picture waits for."""
    return sign is not None if sight[0] == 0 else hands_out(then)


class Waits:
    """The waiting pictures so far: those whose wait one step without faults ends, and how such steps link the others.

    By a picture: behind it stand those to which a step leads, ahead of it those from which one leads.
    """

    def __init__(self):
        self.ending = {}
        self.ahead = {}
        self.behind = {}

    def look_at(self, sight, turns):
        """Looks at the turns of a waiting picture."""
        for step, sign, then, _ in turns:
            if not step.is_fault and ends_wait(sight, sign, then):
                self.ending[sight] = True
            elif not step.is_fault:
                self.behind.setdefault(sight, []).append(then)
                self.ahead.setdefault(then, []).append(sight)

    def all_ranks(self):
        """The dict from pictures to ranks, of those that have a rank."""
        found = {sight: 1 for sight in self.ending}
        level = list(self.ending)
        while len(level) > 0:
            level = spread(level, self.ahead, found)
        return found

    def lot_of(self, sight):
        """The ascending tuple of the texts of those to which steps without faults lead from one without a rank."""
        found = {sight: 1}
        level = [sight]
        while len(level) > 0:
            level = spread(level, self.behind, found)
        return tuple(sorted([str(text_of(1, other)) for other in found]))


def spread(level, links, found):
    """The pictures that are linked to those of a level and are new; they get the next rank."""
    new = []
    for sight in level:
        for other in links.get(sight, []):
            if other not in found:
                found[other] = found[sight] + 1
                new.append(other)
    return new


def goes_on(link, limit=5000):
    """A Goes with the ranks of all waiting pictures, or a Stuck with a shortest run to one without a rank."""
    need_link(link, "link")
    need_limit(limit)
    search = Search(Guide(link), 1, 1)
    waits = Waits()
    while len(search.level) > 0:
        for sight, turns in search.advance_and_tell():
            waits.look_at(sight, turns)
        search.need_at_most(limit)
    ranks = waits.all_ranks()
    for sight in search.before:
        # The pictures stand there level by level, so the first one has a shortest run.
        if sight not in ranks:
            return stuck_at(search, sight, waits.lot_of(sight))
    ranks_of_texts = {text_of(1, sight): ranks[sight] for sight in ranks}
    return Goes(tuple([(text, ranks_of_texts[text]) for text in search.pictures()]))


def stuck_at(search, sight, lot):
    """The Stuck of a picture without a rank."""
    turns = search.turns_to(search.before[sight])
    taken = [sign for _, sign, _, _ in turns if sign is not None]
    mark = taken.index("a") if "a" in taken else None
    return Stuck(tuple([step for step, _, _, _ in turns]), mark, lot)
