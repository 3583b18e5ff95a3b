"""What steps make of pictures. What was worked out once for parts of a picture is kept, and used again for others.

A turn is a tuple: a step; the sign of the message that it takes, or None; the sight behind it, or None if that is over
or the step breaks; and whether it breaks.

A path is what a step makes of an end, wherever the other end is: a tuple of the step, the sign of the message that it
takes or None, the marks that it hands out, the end behind it, what is left of what the end hears, what it sends, and
how many letters or answers that are.
"""

from markedpair.plays import SENDS, Board, Doing, fits, hears, word_of_deeds
from markedpair.sights import ANSWER_SIZE, BLANK, LETTER_SIZE, MARKS
from markedpair.sights import answers_text, cells_of, is_over, letters_text, own_text

# The sign of the next mark where none is to come.
NO_MARK = ""


class Stance:
    """An end in a state with signs in its boxes: the rows that fit, and what they hear.

    Of each row it has the index, the row, the steps that can do it, and whether it takes.
    """

    def __init__(self, player, own):
        self.cells = cells_of(own)
        pairs = player.pairs_at(int(own.split(" ")[0]))
        self.rows = [(at, row, player.steps_of(at), row.takes) for at, row in pairs if fits(row, self.cells)]
        self.heard = [row.hear for _, row, _, _ in self.rows]


class Routes:
    """The paths of one end of a link."""

    def __init__(self, player, sends, size):
        self.player = player
        self.sends = sends
        # How many characters a letter or an answer has that the end hears.
        self.size = size
        self.stances = {}
        self.effects = {}
        self.paths = {}

    def paths_of(self, own, held, mark):
        """The list of the paths of the end, beside what lies in the channel that it hears, with this next mark."""
        key = (own, held, mark)
        if key not in self.paths:
            self.paths[key] = self.new_paths(own, held, mark)
        return self.paths[key]

    def new_paths(self, own, held, mark):
        """The same, worked out."""
        if own not in self.stances:
            self.stances[own] = Stance(self.player, own)
        stance = self.stances[own]
        taken = (BLANK,) if mark == NO_MARK else (BLANK, mark)
        units = units_of(held, self.size)
        paths = []
        for at, row, steps, takes in stance.rows:
            signs = taken if takes else (None,)
            for step, message, left in beginnings_of(row, steps, stance.heard, held, units):
                for sign in signs:
                    effect = self.effect_of(own, at, message, sign)
                    if effect is not None:
                        given, behind, sent, many = effect
                        paths.append((step, sign, given, behind, left, sent, many))
        return paths

    def effect_of(self, own, at, message, sign):
        """What the deeds of a row do: the marks given, the end behind, what is sent, and how many; None if nothing."""
        key = (own, at, message, sign)
        if key not in self.effects:
            self.effects[key] = self.new_effect(self.stances[own].cells, self.player.rows[at], message, sign)
        return self.effects[key]

    def new_effect(self, cells, row, message, sign):
        """The same, worked out."""
        # As if the channel were empty: whether there is room depends on how many are sent, and on nothing else.
        doing = Doing(cells, message, sign, self.sends.capacity)
        if word_of_deeds(doing, row.deeds) is not None:
            return None
        sent = letters_text(doing.sent) if self.player.side == "sender" else answers_text(doing.sent)
        given = "".join([each for each in doing.given if each in MARKS])
        return given, own_text(row.then, doing.cells), sent, len(doing.sent)


def units_of(held, size):
    """The triples of a letter's or an answer's number, its message if it has one, and what else is held."""
    return [
        (int(held[start]), held[start + 1:start + size], held[:start] + held[start + size:])
        for start in range(0, len(held), size)
    ]


def beginnings_of(row, steps, heard, held, units):
    """The triples of a step that does a row, the message that it hears or None, and what is left of what is held."""
    if row.hear is None:
        return [(steps[0], None, held)]
    found = []
    for step in steps:
        if step.place < len(units):
            number, message, left = units[step.place]
            if hears(row, number, heard):
                found.append((step, message, held if step.stays else left))
    return found


class Vanishing:
    """The losses of one channel."""

    def __init__(self, line, size):
        self.line = line
        self.size = size
        self.known = {}

    def pairs_of(self, held):
        """The list of the pairs of a loss and what is left."""
        if held not in self.known:
            self.known[held] = self.new_pairs(held)
        return self.known[held]

    def new_pairs(self, held):
        """The same, worked out."""
        if not self.line.losing:
            return []
        return [(loss, left) for loss, (_, _, left) in zip(self.line.losses, units_of(held, self.size))]


class Guide:
    """A link made ready for pictures."""

    def __init__(self, link):
        self.board = Board(link)
        players, lines = self.board.players, self.board.lines
        self.down = lines["down"].capacity
        self.up = lines["up"].capacity
        self.sender = Routes(players["sender"], lines["down"], ANSWER_SIZE)
        self.receiver = Routes(players["receiver"], lines["up"], LETTER_SIZE)
        self.lost_letters = Vanishing(lines["down"], LETTER_SIZE)
        self.lost_answers = Vanishing(lines["up"], ANSWER_SIZE)
        self.losing = lines["down"].losing or lines["up"].losing

    def first_sight(self):
        """The picture at the beginning."""
        sender, receiver = [own_text(0, [None] * routes.player.size) for routes in (self.sender, self.receiver)]
        return 0, sender, "", receiver, ""

    def turns_of(self, marks, sight):
        """The list of the turns of all steps that can be done, in their order."""
        turns = self.turns_of_sender(marks, sight)
        turns.extend(self.turns_of_receiver(marks, sight))
        if self.losing:
            turns.extend(self.turns_of_losses(sight))
        return without_over(turns) if marks == 1 and sight[0] == 2 else turns

    def turns_of_sender(self, marks, sight):
        """The list of the turns of the sender's steps, as if nothing were over."""
        stage, sender, letters, receiver, answers = sight
        mark = MARKS[stage] if stage < marks else NO_MARK
        free = self.down - len(letters) // LETTER_SIZE
        turns = []
        for step, sign, _, behind, left, sent, many in self.sender.paths_of(sender, answers, mark):
            if many <= free:
                later = stage + 1 if sign == mark else stage
                turns.append((step, sign, (later, behind, letters + sent, receiver, left), False))
        return turns

    def turns_of_receiver(self, marks, sight):
        """The list of the turns of the receiver's steps, as if nothing were over but what is handed out."""
        stage, sender, letters, receiver, answers = sight
        free = self.up - len(answers)
        turns = []
        for step, _, given, behind, left, sent, many in self.receiver.paths_of(receiver, letters, NO_MARK):
            if many <= free:
                then = (stage, sender, left, behind, answers + sent)
                turns.append((step, None, then, False) if given == "" else turn_of_out(marks, step, given, then))
        return turns

    def turns_of_losses(self, sight):
        """The list of the turns of losses, as if nothing were over."""
        stage, sender, letters, receiver, answers = sight
        turns = []
        for loss, left in self.lost_letters.pairs_of(letters):
            turns.append((loss, None, (stage, sender, left, receiver, answers), False))
        for loss, left in self.lost_answers.pairs_of(answers):
            turns.append((loss, None, (stage, sender, letters, receiver, left), False))
        return turns


def turn_of_out(marks, step, given, then):
    """The turn of a step that hands these marks out, where only the stage of this sight behind it is not right yet."""
    if marks == 2:
        return step, None, None, given[0] == "b"
    stage, sender, letters, receiver, answers = then
    if stage == 2 or len(given) > 1:
        # Handed out twice, by this step alone or by this step and an earlier one.
        return step, None, None, True
    behind = (2, sender, letters, receiver, answers)
    return step, None, None if is_over(marks, behind) else behind, False


def without_over(turns):
    """These turns of a picture with one mark at stage 2, with nothing behind those that lead to what is over."""
    return [
        (step, sign, None if then is not None and is_over(1, then) else then, breaks)
        for step, sign, then, breaks in turns
    ]
