"""The judgement of links: kept, shown by two closed tables, or broken, shown by a shortest run."""

from markedpair.guides import Guide
from markedpair.links import need_link
from markedpair.searches import Search, need_limit


class Verdict:
    """The base of papers that answer yes or no; it is not made itself."""


class Kept(Verdict):
    """A paper: a link is kept, shown by a closed table for one mark and by one for two."""

    def __init__(self, one, two):
        self.one = one
        self.two = two

    def __eq__(self, other):
        return isinstance(other, Kept) and self.one == other.one and self.two == other.two

    def __bool__(self):
        return True


class Broken(Verdict):
    """A paper: a link is broken, shown by the steps of a run that breaks."""

    def __init__(self, steps):
        self.steps = steps

    def __eq__(self, other):
        return isinstance(other, Broken) and self.steps == other.steps

    def __bool__(self):
        return False


def judge(link, limit=5000):
    """A Kept with the pictures that are reached, or a Broken with a shortest run that breaks."""
    need_link(link, "link")
    need_limit(limit)
    guide = Guide(link)
    searches = [Search(guide, marks) for marks in (1, 2)]
    while any([len(search.level) > 0 for search in searches]):
        # All breaking steps of a level ahead of the limit: pictures behind them do not count.
        for search in searches:
            search.advance()
            if search.breaking is not None:
                return Broken(tuple([step for step, _, _, _ in search.turns_to(search.breaking)]))
        for search in searches:
            search.need_at_most(limit)
    one, two = searches
    return Kept(one.pictures(), two.pictures())
