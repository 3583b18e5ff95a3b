"""The search for pictures from the beginning, level by level."""

from markedpair.checks import is_within
from markedpair.errors import BadCount, TooMany
from markedpair.sights import first_sight, turns_of

MOST_PICTURES = 20000


def need_limit(limit):
    """Refuses any value that is no limit of a search."""
    if not is_within(limit, 1, MOST_PICTURES):
        raise BadCount(limit)


class Search:
    """The pictures that are found so far, and those of the last level, whose turns were not looked at yet.

    Pictures of stages behind the last one are left out.
    """

    def __init__(self, board, marks, last_stage=2):
        first = first_sight(board, marks)
        self.board = board
        self.last_stage = last_stage
        self.level = [first]
        # By the text of a picture: the text ahead of it and the turn from there; None for the first one.
        self.before = {first.text: None}

    def advance(self):
        """Goes on by one level; returns the pairs (sight, turn) of all turns of the level that is left."""
        pairs = [(sight, turn) for sight in self.level for turn in turns_of(self.board, sight)]
        self.level = []
        for sight, turn in pairs:
            then = turn.then
            if then is not None and then.stage <= self.last_stage and then.text not in self.before:
                self.before[then.text] = (sight.text, turn)
                self.level.append(then)
        return pairs

    def need_at_most(self, limit):
        """Refuses more pictures than this limit."""
        if len(self.before) > limit:
            raise TooMany("pictures", limit)

    def pictures(self):
        """The ascending tuple of the pictures."""
        return tuple(sorted([str(text) for text in self.before]))

    def turns_to(self, text):
        """The list of the turns of a shortest way to a picture."""
        turns = []
        ahead = self.before[text]
        while ahead is not None:
            turns.append(ahead[1])
            ahead = self.before[ahead[0]]
        return turns[::-1]
