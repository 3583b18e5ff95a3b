"""Live runs of links: steps are done and taken back, and the run is looked at."""

from markedpair.checks import is_integer, is_side
from markedpair.errors import BadRun, BadStep, Blocked, Nothing, TooMany
from markedpair.links import Link
from markedpair.plays import Board, play
from markedpair.scenes import first_scene, is_in_order, picture_behind, scene_behind
from markedpair.steps import is_step
from markedpair.trials import Trial

MOST_STEPS = 400
MOST_MESSAGES = 100


def need_side(side):
    """Refuses any value that is no side."""
    if not is_side(side):
        raise BadRun("side")


def are_marked(values):
    """Whether these are at most two places of messages, ascending."""
    if len(values) > 2 or not all([is_integer(value) and value >= 0 for value in values]):
        return False
    return len(values) < 2 or values[0] < values[1]


class Run:
    """A live run of a link that takes these messages, one after another."""

    def __init__(self, link, messages=()):
        if not isinstance(link, Link):
            raise BadRun("link")
        if not isinstance(messages, (list, tuple)) or len(messages) > MOST_MESSAGES:
            raise BadRun("messages")
        self.link = link
        self.messages = tuple(messages)
        # Whether it takes 0, 1, 2 .. in the place of the messages.
        self.endless = False
        self.board = Board(link)
        # The scenes from the beginning on; a tuple, so that a trial can keep it.
        self.story = (first_scene(self.board),)

    def do(self, step):
        """Does a step."""
        if not is_step(step):
            raise BadStep("step")
        if len(self.story) > MOST_STEPS:
            raise TooMany("steps", MOST_STEPS)
        outcome = self.outcome_of(step)
        if outcome.word is not None:
            raise Blocked(outcome.word)
        self.story = (*self.story, scene_behind(self.story[-1], step, outcome))

    def __iadd__(self, other):
        self.do(other)
        return self

    def blocked(self, step):
        """The word that blocks a step, None if it can be done."""
        if not is_step(step):
            raise BadStep("step")
        return self.outcome_of(step).word

    def outcome_of(self, step):
        """What a step leads to."""
        scene = self.story[-1]
        has_next = self.endless or scene.taken < len(self.messages)
        return play(self.board, scene.moment, step, scene.taken if has_next else None)

    def undo(self):
        """Takes the last step back and returns it."""
        if len(self.story) == 1:
            raise Nothing()
        step = self.story[-1].step
        self.story = self.story[:-1]
        return step

    def open_steps(self):
        """The steps that can be done, in their order."""
        tried = self.board.worth_a_try(self.story[-1].moment)
        # All of them first, as the run can change between two of them.
        can_be_done = [step for step in tried if self.blocked(step) is None]
        for step in can_be_done:
            yield step

    @property
    def done(self):
        """The tuple of the steps."""
        return tuple([scene.step for scene in self.story[1:]])

    @property
    def took(self):
        """How many messages were taken."""
        return self.story[-1].taken

    @property
    def outs(self):
        """The tuple of the places of the messages that were handed out, in order."""
        return self.story[-1].given

    @property
    def out(self):
        """The tuple of the messages that were handed out, in order."""
        places = self.story[-1].given
        return places if self.endless else tuple([self.messages[place] for place in places])

    @property
    def is_true(self):
        """Whether what was handed out is a beginning of what was taken."""
        return is_in_order(self.story[-1].given)

    def state_of(self, side):
        """The state of an end."""
        need_side(side)
        return self.story[-1].moment.own(side)[0]

    def boxes_of(self, side):
        """The tuple of the place of the message in each box of an end, None for an empty one."""
        need_side(side)
        return self.story[-1].moment.own(side)[1]

    def letters(self):
        """The tuple of the pairs (number, place of the message) of the letters, the oldest one first."""
        return self.story[-1].moment.down

    def answers(self):
        """The tuple of the numbers of the answers, the oldest one first."""
        return tuple([number for number, _ in self.story[-1].moment.up])

    def seen(self, *marked):
        """The picture with marks at these places; None if it is over."""
        if not are_marked(marked):
            raise BadRun("marked")
        return picture_behind(self.story[-1], marked)

    def trial(self):
        """A block behind which the steps are as when it began."""
        return Trial(self)

    def tried(self, work):
        """What work(run) returns, called in a trial."""
        with self.trial() as same:
            return work(same)

    def twin(self):
        """A run with the same link, messages and steps that goes its own way."""
        other = Run(self.link, self.messages)
        other.endless = self.endless
        other.story = self.story
        return other

    @staticmethod
    def of(link, steps, messages=None):
        """The run behind these steps; without messages it takes 0, 1, 2 .., without an end."""
        run = Run(link, () if messages is None else messages)
        run.endless = messages is None
        if not isinstance(steps, (list, tuple)):
            raise BadRun("steps")
        for at, step in enumerate(steps):
            try:
                run.do(step)
            except (BadStep, Blocked, TooMany):
                raise BadRun(at) from None
        return run
