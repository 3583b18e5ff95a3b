"""A second, slow program for runs and pictures, written from the document alone: it works on texts and copied dicts.

A state is a dict: the state and the boxes of both ends, and what lies in both channels.
"""

from markedpair.steps import Act, Hear, Lose

SIDES = ("sender", "receiver")
INBOX = {"sender": "up", "receiver": "down"}
OUTBOX = {"sender": "down", "receiver": "up"}


def beginning(link):
    """The state at the beginning."""
    return {
        "sender": 0, "receiver": 0, "sender boxes": [None] * boxes_of(link.sender),
        "receiver boxes": [None] * boxes_of(link.receiver), "down": [], "up": [],
    }


def copied(state):
    """A copy of a state; messages are kept."""
    return {key: list(worth) if isinstance(worth, list) else worth for key, worth in state.items()}


def boxes_of(end):
    """How many boxes an end has."""
    return max([1] + [box + 1 for row in end for box in row.named_boxes()])


def fits(row, boxes):
    return all(boxes[box] is None for box in row.empty) and all(boxes[box] is not None for box in row.full)


def every_step(link):
    """All steps that a link can have at any time, in the order of open steps."""
    steps = []
    for side, end in zip(SIDES, (link.sender, link.receiver)):
        for at, row in enumerate(end):
            if row.hear is None:
                steps.append(Act(side, at))
            else:
                steps += [Hear(side, at, place, stays) for place in range(3) for stays in (False, True)]
    return steps + [Lose(way, place) for way in ("down", "up") for place in range(3)]


def after(link, state, step, message):
    """What a step does: a word and None, or None and (state, messages handed out, whether one was taken)."""
    state = copied(state)
    if isinstance(step, Lose):
        return after_loss(link, state, step)
    rows = list(link.sender if step.side == "sender" else link.receiver)
    if step.at not in range(len(rows)) or (rows[step.at].hear is None) != isinstance(step, Act):
        return "row", None
    row, boxes, heard = rows[step.at], state[step.side + " boxes"], None
    if row.state != state[step.side]:
        return "state", None
    if isinstance(step, Hear):
        way = INBOX[step.side]
        channel = link.up if way == "up" else link.down
        if step.place not in range(len(state[way])):
            return "letter", None
        if step.place > channel.overtakes or (step.stays and not channel.doubles):
            return "fault", None
        number = state[way][step.place][0]
        rivals = [other for other in rows if other.state == row.state and other.hear == number and fits(other, boxes)]
        if row.hear != number and (row.hear != "other" or rivals):
            return "number", None
        heard = state[way][step.place][1]
        if not step.stays:
            del state[way][step.place]
    if not fits(row, boxes):
        return "boxes", None
    return after_deeds(link, state, step.side, row, heard, message)


def after_loss(link, state, step):
    if step.place not in range(len(state[step.way])):
        return "letter", None
    if not (link.down if step.way == "down" else link.up).loses:
        return "fault", None
    del state[step.way][step.place]
    return None, (state, [], False)


def after_deeds(link, state, side, row, heard, message):
    boxes, way = state[side + " boxes"], OUTBOX[side]
    capacity = (link.down if way == "down" else link.up).capacity
    outs, took = [], False
    for deed in row.deeds:
        verb, *told = str(deed).split(" ")
        told = [int(word) for word in told]
        if verb in ("send", "out", "move", "clear") and boxes[told[0]] is None:
            return "box", None
        if verb in ("send", "answer") and len(state[way]) == capacity:
            return "room", None
        if verb == "take":
            if message is None:
                return "message", None
            boxes[told[0]], took = message, True
        elif verb == "send":
            state[way].append((told[1], boxes[told[0]]))
        elif verb == "put":
            boxes[told[0]] = heard
        elif verb == "out":
            outs.append(boxes[told[0]])
            boxes[told[0]] = None
        elif verb == "answer":
            state[way].append((told[0], None))
        elif verb == "move":
            boxes[told[1]], boxes[told[0]] = boxes[told[0]], None
        else:
            boxes[told[0]] = None
    state[side] = row.then
    return None, (state, outs, took)


def written(marks, stage, state):
    """The text of a picture; signs are the messages."""
    sender, receiver = ["".join([sign or "-" for sign in state[side + " boxes"]]) for side in SIDES]
    letters = "".join([f"{number}{sign}" for number, sign in state["down"]]) or "-"
    answers = "".join([f"{number}" for number, _ in state["up"]]) or "-"
    return f"{marks} {stage} {state['sender']} {sender} {letters} {state['receiver']} {receiver} {answers}"


def read(picture):
    """The marks, the stage and the state of a picture."""
    marks, stage, one, sender, letters, other, receiver, answers = picture.split(" ")
    state = {"sender": int(one), "receiver": int(other)}
    state["sender boxes"] = [None if sign == "-" else sign for sign in sender]
    state["receiver boxes"] = [None if sign == "-" else sign for sign in receiver]
    pairs = [] if letters == "-" else [letters[at:at + 2] for at in range(0, len(letters), 2)]
    state["down"] = [(int(pair[0]), pair[1]) for pair in pairs]
    state["up"] = [] if answers == "-" else [(int(number), None) for number in answers]
    return int(marks), int(stage), state


def lies_somewhere(state, sign):
    return sign in state["sender boxes"] + state["receiver boxes"] + [message for _, message in state["down"]]


def moves(link, picture):
    """The tuples (text of the step, sign, picture or None, breaks) of a picture."""
    marks, stage, state = read(picture)
    found = []
    for step in every_step(link):
        signs = ["."] + (["ab"[stage]] if stage < marks else [])
        for sign in signs:
            word, told = after(link, state, step, sign)
            if word is None and (told[2] or sign == "."):
                then, breaks = behind(marks, stage, sign, told)
                found.append((str(step), sign if told[2] else None, then, breaks))
    return found


def behind(marks, stage, sign, told):
    """The picture behind a step, or None, and whether it breaks."""
    state, outs, took = told
    if took and sign != ".":
        stage += 1
    for out in outs:
        if marks == 2 and out in ("a", "b"):
            return None, out == "b"
        if marks == 1 and out == "a":
            if stage == 2:
                return None, True
            stage = 2
    if marks == 1 and stage == 2 and not lies_somewhere(state, "a"):
        return None, False
    return written(marks, stage, state), False


def levels(link, marks, most=100000):
    """The lists of the pictures that are reached first by 0, 1, 2 .. steps, and how many steps break first, or None.

    With more than most pictures, the last levels are left out.
    """
    level, seen, found, breaks = [written(marks, 0, beginning(link))], set(), [], None
    seen.update(level)
    while level:
        found.append(level)
        new = []
        if len(seen) > most:
            break
        for picture in level:
            for _, _, then, is_break in moves(link, picture):
                if is_break and breaks is None:
                    breaks = len(found)
                if then is not None and then not in seen:
                    seen.add(then)
                    new.append(then)
        level = new
    return found, breaks


class Play:
    """A run of the naive program: messages are places."""

    def __init__(self, link, messages=None):
        self.link, self.messages = link, messages
        self.state, self.took, self.outs, self.steps = beginning(link), 0, [], []

    def next(self):
        return self.took if self.messages is None or self.took < len(self.messages) else None

    def blocked(self, step):
        return after(self.link, self.state, step, self.next())[0]

    def do(self, step):
        word, told = after(self.link, self.state, step, self.next())
        assert word is None
        self.state, outs, took = told
        self.outs, self.took, self.steps = self.outs + outs, self.took + took, self.steps + [step]

    def open_steps(self):
        return [step for step in every_step(self.link) if self.blocked(step) is None]

    def breaks(self):
        return self.outs != list(range(len(self.outs)))

    def seen(self, *marked):
        """The picture with these marks, None if it is over."""
        stage = sum(place < self.took for place in marked)
        if marked and marked[0] in self.outs:
            stage = 2
        state = copied(self.state)
        for key in ("sender boxes", "receiver boxes"):
            state[key] = [self.sign(place, marked) for place in state[key]]
        state["down"] = [(number, self.sign(place, marked)) for number, place in state["down"]]
        if marked and marked[0] in self.outs and (len(marked) == 2 or not lies_somewhere(state, "a")):
            return None
        return written(len(marked), stage, state)

    def sign(self, place, marked):
        if place is None:
            return None
        return {mark: "ab"[at] for at, mark in enumerate(marked)}.get(place, ".")

    def twin(self):
        other = Play(self.link, self.messages)
        other.state, other.took = copied(self.state), self.took
        other.outs, other.steps = list(self.outs), list(self.steps)
        return other


def shortest_break(link, most):
    """The number of steps of a shortest breaking run, None if none of at most so many steps breaks."""
    level, seen = [Play(link)], set()
    for number in range(1, most + 1):
        new = []
        for run in level:
            for step in run.open_steps():
                then = run.twin()
                then.do(step)
                if then.breaks():
                    return number
                key = repr((then.state, then.took, then.outs))
                if key not in seen:
                    seen.add(key)
                    new.append(then)
        level = new
    return None
