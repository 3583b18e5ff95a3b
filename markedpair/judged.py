"""The judgement of links: kept, shown by two closed tables, or broken, shown by a shortest run."""

from markedpair.links import need_link
from markedpair.plays import Board
from markedpair.searches import Search, need_limit


class Verdict:
    """The base of papers that answer yes or no; it is not made itself."""


class Kept(Verdict):
    """A paper: a link is kept, shown by a closed table for one mark and by one for two."""

    def __init__(self, one, two):
        self.one = one
        self.two = two

    def __eq__(self, other):
        return isinstance(other, Kept) and self.one == other.one and self.two == other.two

    def __bool__(self):
        return True


class Broken(Verdict):
    """A paper: a link is broken, shown by the steps of a run that breaks."""

    def __init__(self, steps):
        self.steps = steps

    def __eq__(self, other):
        return isinstance(other, Broken) and self.steps == other.steps

    def __bool__(self):
        return False


def judge(link, limit=5000):
    """A Kept with the pictures that are reached, or a Broken with a shortest run that breaks."""
    need_link(link, "link")
    need_limit(limit)
    board = Board(link)
    searches = [Search(board, marks) for marks in (1, 2)]
    while any([len(search.level) > 0 for search in searches]):
        # All breaking steps of a level ahead of the limit: pictures behind them do not count.
        for search in searches:
            steps = steps_that_break(search)
            if steps is not None:
                return Broken(steps)
        for search in searches:
            search.need_at_most(limit)
    one, two = searches
    return Kept(one.pictures(), two.pictures())


def steps_that_break(search):
    """Goes on by one level; the tuple of the steps of a way that breaks there, None if there is none."""
    for sight, turn in search.advance():
        if turn.breaks:
            turns = search.turns_to(sight.text) + [turn]
            return tuple([each.step for each in turns])
    return None
