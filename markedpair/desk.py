"""Desks: senders, receivers, channels, links and runs under names, handled by lines of words."""

from markedpair.channels import Channel
from markedpair.commands import KINDS, command_of
from markedpair.ends import Receiver, Sender
from markedpair.errors import Blocked, NoName, TooMany
from markedpair.families import all_so_far, each_by_itself, one_by_one
from markedpair.going import goes_on
from markedpair.judged import judge
from markedpair.links import Link
from markedpair.logs import log_of
from markedpair.runs import Run
from markedpair.texts import joined, link_text
from markedpair.used import idle_rows

LIMIT = 2000
DONE = "ok"


def kind_of(thing):
    """The word of the kind of a thing."""
    if isinstance(thing, Sender):
        return "sender"
    if isinstance(thing, Receiver):
        return "receiver"
    if isinstance(thing, Channel):
        return "channel"
    return "link" if isinstance(thing, Link) else "run"


def in_one_line(values):
    """The texts of these values in one line."""
    return joined([str(value) for value in values], " ; ")


def bound_sender(name, rows):
    """The dict of the new thing of a line `sender`."""
    return {name: Sender(*rows)}


def bound_receiver(name, rows):
    """The dict of the new thing of a line `receiver`."""
    return {name: Receiver(*rows)}


def bound_channel(name, channel):
    """The dict of the new thing of a line `channel`."""
    return {name: channel}


def bound_one(name, other, numbers):
    """The dict of the new things of a line `one`."""
    sender, receiver = one_by_one(numbers)
    return {name: sender, other: receiver}


def bound_all(name, other, window, numbers):
    """The dict of the new things of a line `all`."""
    sender, receiver = all_so_far(window, numbers)
    return {name: sender, other: receiver}


def bound_each(name, other, window, numbers):
    """The dict of the new things of a line `each`."""
    sender, receiver = each_by_itself(window, numbers)
    return {name: sender, other: receiver}


def bound_link(name, sender, receiver, down, up):
    """The dict of the new thing of a line `link`."""
    return {name: Link(sender, receiver, down, up)}


def bound_run(name, link, count):
    """The dict of the new thing of a line `run`."""
    return {name: Run(link, list(range(count)))}


# By the first word of a line that binds names.
BINDERS = {
    "sender": bound_sender,
    "receiver": bound_receiver,
    "channel": bound_channel,
    "one": bound_one,
    "all": bound_all,
    "each": bound_each,
    "link": bound_link,
    "run": bound_run,
}


def told_thing(thing):
    """The answer to `show`."""
    if isinstance(thing, Link):
        return link_text(thing).replace("\n", " / ")
    return in_one_line(thing.done) if isinstance(thing, Run) else str(thing)


def told_out(run):
    """The answer to `out`."""
    return joined([str(message) for message in run.out], " ")


def told_open_steps(run):
    """The answer to `open`."""
    return in_one_line(list(run.open_steps()))


def told_picture(run):
    """The answer to `seen`."""
    return run.seen()


def told_verdict(link):
    """The answer to `judge`."""
    paper = judge(link, LIMIT)
    return "kept" if paper else f"broken {len(paper.steps)}"


def told_way(link):
    """The answer to `way`."""
    paper = judge(link, LIMIT)
    return in_one_line(() if paper else paper.steps)


def told_going(link):
    """The answer to `going`."""
    return "goes" if goes_on(link, LIMIT) else "stuck"


def told_idle(link):
    """The answer to `idle`."""
    return in_one_line([f"{side} {at}" for side, at in idle_rows(link, LIMIT).rows])


def told_log(run):
    """The answer to `log`."""
    return in_one_line(log_of(run))


# By the first word of a line that asks.
TELLERS = {
    "show": told_thing,
    "out": told_out,
    "open": told_open_steps,
    "seen": told_picture,
    "judge": told_verdict,
    "way": told_way,
    "going": told_going,
    "idle": told_idle,
    "log": told_log,
}


class Desk:
    """Things under names, and what can be taken back of the lines that changed them."""

    def __init__(self):
        # Neither this dict nor a run in it is changed: others take their places, so that the earlier can come back.
        self.things = {}
        # The dicts that stood there ahead of each line that can be taken back.
        self.past = ()

    def say(self, line):
        """Carries a line out and returns its answer."""
        command = command_of(line)
        told = self.told_values(command)
        if command.word == "undo":
            return self.undo_line()
        if command.word == "drop":
            return self.drop_name(command.told[0])
        if command.word == "do":
            run, step = told
            return self.do_step(command.told[0], run, step)
        if command.word in BINDERS:
            binder = BINDERS[command.word]
            return self.bind(binder(*told))
        teller = TELLERS[command.word]
        try:
            return teller(*told)
        except TooMany:
            return "many"

    def __call__(self, line):
        return self.say(line)

    def run_lines(self, *lines):
        """Carries lines out, all or, if one of them raises an error, none; returns the list of the answers."""
        other = Desk()
        other.things = self.things
        other.past = self.past
        answers = [other.say(line) for line in lines]
        self.things = other.things
        self.past = other.past
        return answers

    @property
    def names(self):
        """The ascending tuple of the names."""
        return tuple(sorted([str(name) for name in self.things]))

    def __len__(self):
        return len(self.past)

    def told_values(self, command):
        """The list of what a command tells, with the things in the place of the names that must stand for some."""
        return [self.thing_of(told, slot) if slot in KINDS else told for slot, told in zip(command.slots, command.told)]

    def thing_of(self, name, kind):
        """The thing of this kind under a name."""
        if name not in self.things:
            raise NoName(name)
        thing = self.things[name]
        if kind not in ("any", kind_of(thing)):
            raise NoName(name)
        return thing

    def replace_things(self, things):
        """Puts a dict of things in the place of the one that stands there, so that it can be taken back."""
        self.past = (*self.past, self.things)
        self.things = things
        return DONE

    def bind(self, new):
        """Puts new things under their names."""
        return self.replace_things({**self.things, **new})

    def drop_name(self, name):
        """Takes the thing under a name away."""
        return self.replace_things({other: self.things[other] for other in self.things if other != name})

    def do_step(self, name, run, step):
        """Does a step in the run under a name."""
        twin = run.twin()
        try:
            twin.do(step)
        except Blocked as why:
            return f"blocked {why.word}"
        return self.bind({name: twin})

    def undo_line(self):
        """Takes the last line back that can be."""
        if len(self.past) == 0:
            return "nothing"
        self.things = self.past[-1]
        self.past = self.past[:-1]
        return DONE
