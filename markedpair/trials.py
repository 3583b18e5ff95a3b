"""Trials of runs and benches: blocks behind which all is as it was."""


class Ahead:
    """The story that something had when a block began, and what an earlier block keeps."""

    def __init__(self, story, earlier):
        self.story = story
        self.earlier = earlier


class Trial:
    """A block behind which something has the story that it had when the block began.

    The story is all of it that can change. It never changes itself, but another one takes its place.
    """

    def __init__(self, tried_one):
        self.tried_one = tried_one
        self.ahead = None

    def __enter__(self):
        # A chain, as the same trial can be entered again before it is left.
        self.ahead = Ahead(self.tried_one.story, self.ahead)
        return self.tried_one

    def __exit__(self, kind, value, trace):
        self.tried_one.story = self.ahead.story
        self.ahead = self.ahead.earlier
