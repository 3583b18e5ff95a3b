"""How the steps of a link are done: what blocks a step, and what stands behind it."""

from markedpair.checks import SIDES
from markedpair.steps import WAYS, Act, Hear, Lose

# The way from which an end hears, and the way on which it sends.
HEARS = {"sender": "up", "receiver": "down"}
SENDS = {"sender": "down", "receiver": "up"}


class Line:
    """A channel made ready for play: what it lets, and the losses of what it can hold."""

    def __init__(self, channel, way):
        self.capacity = channel.capacity
        self.reach = channel.overtakes
        self.doubling = channel.doubles
        self.losing = channel.loses
        self.losses = [Lose(way, place) for place in range(self.capacity)]


class Player:
    """An end made ready for play: its rows, by state the pairs (index, row), and the steps that do a row."""

    def __init__(self, end, line):
        self.side = end.SIDE
        self.size = end.boxes
        self.rows = end.rows
        self.line = line
        self.pairs = {}
        for at, row in enumerate(self.rows):
            self.pairs.setdefault(row.state, []).append((at, row))
        self.steps = {}

    def pairs_at(self, state):
        """The list of the pairs (index, row) of the rows of a state."""
        return self.pairs.get(state, [])

    def steps_of(self, at):
        """The list of the steps that can do the row with an index, in their order."""
        # Only those that are asked for are made, as most rows of a large table may never have their turn.
        if at not in self.steps:
            self.steps[at] = steps_of_row(self.side, at, self.rows[at], self.line)
        return self.steps[at]


def steps_of_row(side, at, row, line):
    """The steps that can do a row, in their order."""
    if row.hear is None:
        return [Act(side, at)]
    choices = (False, True) if line.doubling else (False,)
    return [Hear(side, at, place, stays) for place in range(line.reach + 1) for stays in choices]


class Board:
    """A link made ready for play."""

    def __init__(self, link):
        self.lines = {"down": Line(link.down, "down"), "up": Line(link.up, "up")}
        self.players = {
            "sender": Player(link.sender, self.lines["up"]),
            "receiver": Player(link.receiver, self.lines["down"]),
        }
        self.losses = [loss for way in WAYS for loss in self.lines[way].losses]

    def beginning(self):
        """The moment at the beginning."""
        sender, receiver = [(0, (None,) * self.players[side].size) for side in SIDES]
        return Moment(sender, receiver, (), ())

    def worth_a_try(self, moment):
        """The steps of the states of both ends, and the losses, in their order."""
        steps = []
        for side in SIDES:
            player = self.players[side]
            for at, _ in player.pairs_at(moment.own(side)[0]):
                steps.extend(player.steps_of(at))
        steps.extend(self.losses)
        return steps


class Moment:
    """Both ends and both channels between two steps; it never changes.

    An end is a pair of its state and its boxes. A message is its place in a run, or its sign in a picture;
    an empty box is None. A letter is a pair of its number and its message, an answer one of its number and None.
    """

    def __init__(self, sender, receiver, down, up):
        self.sender = sender
        self.receiver = receiver
        self.down = down
        self.up = up

    def own(self, side):
        """The pair of the state and the boxes of an end."""
        return self.sender if side == "sender" else self.receiver

    def held(self, way):
        """What a channel holds, the oldest one first."""
        return self.down if way == "down" else self.up


class Doing:
    """An end amid the deeds of a row."""

    def __init__(self, boxes, heard, message, free):
        self.cells = list(boxes)
        self.heard = heard
        self.message = message
        self.free = free
        self.sent = []
        self.given = []
        self.taking = False


def do_take(doing, deed):
    """Does a take; the word that blocks it, or None."""
    if doing.message is None:
        return "message"
    doing.cells[deed.box] = doing.message
    doing.taking = True
    return None


def do_send(doing, deed):
    """Does a send; the word that blocks it, or None."""
    if doing.cells[deed.box] is None:
        return "box"
    if len(doing.sent) >= doing.free:
        return "room"
    doing.sent.append((deed.number, doing.cells[deed.box]))
    return None


def do_put(doing, deed):
    """Does a put; None, as nothing blocks it."""
    doing.cells[deed.box] = doing.heard
    return None


def do_out(doing, deed):
    """Does an out; the word that blocks it, or None."""
    if doing.cells[deed.box] is None:
        return "box"
    doing.given.append(doing.cells[deed.box])
    doing.cells[deed.box] = None
    return None


def do_answer(doing, deed):
    """Does an answer; the word that blocks it, or None."""
    if len(doing.sent) >= doing.free:
        return "room"
    doing.sent.append((deed.number, None))
    return None


def do_move(doing, deed):
    """Does a move; the word that blocks it, or None."""
    if doing.cells[deed.box] is None:
        return "box"
    doing.cells[deed.to] = doing.cells[deed.box]
    doing.cells[deed.box] = None
    return None


def do_clear(doing, deed):
    """Does a clear; the word that blocks it, or None."""
    if doing.cells[deed.box] is None:
        return "box"
    doing.cells[deed.box] = None
    return None


ACTIONS = {
    "take": do_take,
    "send": do_send,
    "put": do_put,
    "out": do_out,
    "answer": do_answer,
    "move": do_move,
    "clear": do_clear,
}


class Outcome:
    """What a step leads to: the word that blocks it, or None.

    If it is None, also the moment behind it, the messages that are handed out, and whether one is taken.
    """

    def __init__(self, word, moment=None, given=(), taking=False):
        self.word = word
        self.moment = moment
        self.given = given
        self.taking = taking


def play(board, moment, step, message):
    """The outcome of a step, where this message is the next one, None if there is none."""
    if isinstance(step, Lose):
        return play_loss(board, moment, step)
    word = word_of_row(board, moment, step)
    if word is not None:
        return Outcome(word)
    return play_row(board, moment, step, message)


def play_loss(board, moment, step):
    """The outcome of a loss."""
    held = moment.held(step.way)
    if step.place >= len(held):
        return Outcome("letter")
    if not board.lines[step.way].losing:
        return Outcome("fault")
    left = without(held, step.place)
    if step.way == "down":
        return Outcome(None, Moment(moment.sender, moment.receiver, left, moment.up))
    return Outcome(None, Moment(moment.sender, moment.receiver, moment.down, left))


def word_of_row(board, moment, step):
    """The word that keeps a row from being begun, None if it can be."""
    player = board.players[step.side]
    hearing = isinstance(step, Hear)
    if step.at >= len(player.rows):
        return "row"
    row = player.rows[step.at]
    if (row.hear is not None) != hearing:
        return "row"
    if row.state != moment.own(step.side)[0]:
        return "state"
    if hearing:
        word = word_of_hearing(board, moment, step, row)
        if word is not None:
            return word
    return None if fits(row, moment.own(step.side)[1]) else "boxes"


def word_of_hearing(board, moment, step, row):
    """The word that keeps a row from hearing what lies at a place, None if it does."""
    way = HEARS[step.side]
    line = board.lines[way]
    if step.place >= len(moment.held(way)):
        return "letter"
    if step.place > line.reach or step.stays and not line.doubling:
        return "fault"
    number, _ = moment.held(way)[step.place]
    boxes = moment.own(step.side)[1]
    pairs = board.players[step.side].pairs_at(row.state)
    heard = [rival.hear for _, rival in pairs if fits(rival, boxes)]
    return None if hears(row, number, heard) else "number"


def hears(row, number, heard):
    """Whether a row hears a number, where the rows of its state with fitting boxes hear these."""
    if row.hear == "other":
        return number not in heard
    return row.hear == number


def fits(row, boxes):
    """Whether the boxes that a row tells are empty and full."""
    for box in row.empty:
        if boxes[box] is not None:
            return False
    for box in row.full:
        if boxes[box] is None:
            return False
    return True


def word_of_deeds(doing, deeds):
    """Does deeds one after another; the word that blocks one of them, or None."""
    for deed in deeds:
        action = ACTIONS[deed.verb()]
        word = action(doing, deed)
        if word is not None:
            return word
    return None


def play_row(board, moment, step, message):
    """The outcome of the deeds of a row that can be begun."""
    row = board.players[step.side].rows[step.at]
    left, heard = moment.held(HEARS[step.side]), None
    if isinstance(step, Hear):
        _, heard = left[step.place]
        if not step.stays:
            left = without(left, step.place)
    ahead = moment.held(SENDS[step.side])
    free = board.lines[SENDS[step.side]].capacity - len(ahead)
    doing = Doing(moment.own(step.side)[1], heard, message, free)
    word = word_of_deeds(doing, row.deeds)
    if word is not None:
        return Outcome(word)
    own = (row.then, tuple(doing.cells))
    sent = ahead + tuple(doing.sent)
    if step.side == "sender":
        return Outcome(None, Moment(own, moment.receiver, sent, left), doing.given, doing.taking)
    return Outcome(None, Moment(moment.sender, own, left, sent), doing.given, doing.taking)


def without(held, place):
    """What is held, without what lies at a place."""
    return held[:place] + held[place + 1:]
