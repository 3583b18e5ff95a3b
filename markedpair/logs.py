"""Logs of runs: what is told of sending and hearing, and which logs some run explains."""

from markedpair.deeds import Answer, Send
from markedpair.errors import BadLog, BadRun
from markedpair.guides import Guide
from markedpair.links import need_link
from markedpair.plays import HEARS
from markedpair.runs import Run
from markedpair.searches import Search, need_limit
from markedpair.sights import LETTER_SIZE, NUMBERS
from markedpair.steps import Hear, Lose

MOST_ENTRIES = 60
# The first words of entries: of what an end hears, and of what it sends.
HEARD = {"sender": "got", "receiver": "heard"}
SENT = {"sender": "sent", "receiver": "answered"}
FIRST_WORDS = ("sent", "heard", "answered", "got")


def is_entry(value):
    """Whether any value is an entry."""
    if not isinstance(value, str):
        return False
    words = value.split(" ")
    return len(words) == 2 and words[0] in FIRST_WORDS and words[1] in list(NUMBERS)


def need_log(log):
    """Refuses any value that is no log."""
    if not isinstance(log, (list, tuple)) or len(log) > MOST_ENTRIES:
        raise BadLog(None)
    for at, entry in enumerate(log):
        if not is_entry(entry):
            raise BadLog(at)


def number_in_moment(moment, step):
    """The number that a step hears at a moment, None if it hears none."""
    if not isinstance(step, Hear):
        return None
    number, _ = moment.held(HEARS[step.side])[step.place]
    return number


def number_in_sight(sight, step):
    """The number that a step hears in a picture, None if it hears none."""
    if not isinstance(step, Hear):
        return None
    _, _, letters, _, answers = sight
    return int(answers[step.place]) if step.side == "sender" else int(letters[step.place * LETTER_SIZE])


def entries_of_step(board, step, number):
    """The list of the entries of a step that hears this number, or None."""
    if isinstance(step, Lose):
        return []
    entries = [] if number is None else [f"{HEARD[step.side]} {number}"]
    for deed in board.players[step.side].rows[step.at].deeds:
        if isinstance(deed, (Send, Answer)):
            entries.append(f"{SENT[step.side]} {deed.number}")
    return entries


def log_of(run):
    """The tuple of the entries of what a run has done."""
    if not isinstance(run, Run):
        raise BadRun("run")
    entries = []
    for at, step in enumerate(run.done):
        entries.extend(entries_of_step(run.board, step, number_in_moment(run.story[at].moment, step)))
    return tuple(entries)


def way_on(board, sight, step, then):
    """The triple of a step of a picture, its entries, and the picture behind it."""
    return step, entries_of_step(board, step, number_in_sight(sight, step)), then


class Trace:
    """A search for the runs whose logs begin with a log, level by level.

    A place is a pair: a picture without marks, and how many entries of the log are read on the way to it.
    """

    def __init__(self, link, log, limit):
        self.log = log
        # By picture: the triples of a step, its entries, and the picture behind it.
        self.ways = {}
        guide = Guide(link)
        search = Search(guide, 0)
        while len(search.level) > 0:
            for sight, turns in search.advance_and_tell():
                self.ways[sight] = [way_on(guide.board, sight, step, then) for step, _, then, _ in turns]
            search.need_at_most(limit)
        first = (guide.first_sight(), 0)
        self.level = [first]
        # By place: the place ahead of it and the step from there; None for the first one.
        self.before = {first: None}

    def advance(self):
        """Goes on by one level; returns, of each step from it, the place, the step, its entries, and how many fit."""
        found = []
        level = list(self.level)
        self.level = []
        for place in level:
            sight, at = place
            for step, entries, then in self.ways[sight]:
                fitting = self.how_many_fit(entries, at)
                found.append((place, step, entries, fitting))
                if fitting == len(entries):
                    self.note((then, at + fitting), place, step)
        return found

    def how_many_fit(self, entries, at):
        """How many of these entries stand in the log from an index on, one after another."""
        fitting = 0
        while fitting < len(entries) and at + fitting < len(self.log) and entries[fitting] == self.log[at + fitting]:
            fitting = fitting + 1
        return fitting

    def note(self, behind, place, step):
        """Adds the place behind a step, if it is new."""
        if behind not in self.before:
            self.before[behind] = (place, step)
            self.level.append(behind)

    def steps_to(self, place):
        """The list of the steps of a shortest way to a place."""
        steps = []
        ahead = self.before[place]
        while ahead is not None:
            steps.append(ahead[1])
            ahead = self.before[ahead[0]]
        return steps[::-1]


def trace_of(link, log, limit):
    """The Trace of a log at its beginning."""
    need_link(link, "link")
    need_log(log)
    need_limit(limit)
    return Trace(link, tuple(log), limit)


def first_wrong(link, log, limit=5000):
    """The index of the first entry up to which a log is not explained, None if all of it is."""
    trace = trace_of(link, log, limit)
    most = 0
    while len(trace.level) > 0 and most < len(log):
        for place, _, _, fitting in trace.advance():
            if place[1] + fitting > most:
                most = place[1] + fitting
    return most if most < len(log) else None


def explained(link, log, limit=5000):
    """The tuple of the steps of a shortest run whose log begins with this one, None if there is none."""
    trace = trace_of(link, log, limit)
    if len(log) == 0:
        return ()
    while len(trace.level) > 0:
        for place, step, _, fitting in trace.advance():
            if place[1] + fitting == len(log):
                return tuple(trace.steps_to(place) + [step])
    return None


def next_entries(link, log, limit=5000):
    """The ascending tuple of the entries with which a log can go on and be explained."""
    trace = trace_of(link, log, limit)
    found = {}
    while len(trace.level) > 0:
        for place, _, entries, fitting in trace.advance():
            if place[1] + fitting == len(log) and fitting < len(entries):
                found[entries[fitting]] = True
    return tuple(sorted([str(entry) for entry in found]))
