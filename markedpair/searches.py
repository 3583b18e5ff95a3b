"""The search for pictures from the beginning, level by level."""

from markedpair.checks import is_within
from markedpair.errors import BadCount, TooMany
from markedpair.sights import text_of

MOST_PICTURES = 20000


def need_limit(limit):
    """Refuses any value that is no limit of a search."""
    if not is_within(limit, 1, MOST_PICTURES):
        raise BadCount(limit)


class Search:
    """The pictures that are found so far, and those of the last level, whose turns were not looked at yet.

    Pictures of stages behind the last one are left out.
    """

    def __init__(self, guide, marks, last_stage=2):
        first = guide.first_sight()
        self.guide = guide
        self.marks = marks
        self.last_stage = last_stage
        self.level = [first]
        # By sight: the sight ahead of it and the turn from there; None for the first one.
        self.before = {first: None}
        # The same of the first turn that breaks.
        self.breaking = None

    def advance(self):
        """Goes on by one level."""
        level = list(self.level)
        self.level = []
        for sight in level:
            self.note(sight, self.guide.turns_of(self.marks, sight))

    def advance_and_tell(self):
        """Goes on by one level; returns the pairs (sight, its turns) of the level that is left."""
        pairs = [(sight, self.guide.turns_of(self.marks, sight)) for sight in self.level]
        self.level = []
        for sight, turns in pairs:
            self.note(sight, turns)
        return pairs

    def note(self, sight, turns):
        """Adds the pictures to which the turns of a picture lead, if they are new."""
        for turn in turns:
            _, _, then, breaks = turn
            if breaks and self.breaking is None:
                self.breaking = (sight, turn)
            if then is not None and then not in self.before and then[0] <= self.last_stage:
                self.before[then] = (sight, turn)
                self.level.append(then)

    def run_out(self, limit):
        """Goes on to the end; refuses more pictures than this limit."""
        while len(self.level) > 0:
            self.advance()
            self.need_at_most(limit)

    def need_at_most(self, limit):
        """Refuses more pictures than this limit."""
        if len(self.before) > limit:
            raise TooMany("pictures", limit)

    def pictures(self):
        """The ascending tuple of the pictures."""
        return tuple(sorted([str(text_of(self.marks, sight)) for sight in self.before]))

    def turns_to(self, last):
        """The list of the turns of a shortest way whose last pair (sight ahead, turn) is this one, or of none."""
        turns = []
        ahead = last
        while ahead is not None:
            turns.append(ahead[1])
            ahead = self.before[ahead[0]]
        return turns[::-1]
