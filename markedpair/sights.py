"""Pictures as objects: their texts, and what the steps make of them."""

from markedpair.checks import LAST_NUMBER, LAST_STATE
from markedpair.plays import Moment, play

MARKS = ("a", "b")
BLANK = "."
EMPTY = "-"
NUMERALS = (
    "0", "1", "2", "3", "4", "5", "6", "7", "8", "9", "10", "11",
    "12", "13", "14", "15", "16", "17", "18", "19", "20", "21", "22", "23",
)


class Sight:
    """A picture: its marks, its stage, the moment with signs in the place of messages, and its text."""

    def __init__(self, marks, stage, moment):
        self.marks = marks
        self.stage = stage
        self.moment = moment
        self.text = text_of(marks, stage, moment)


class Turn:
    """A step of a picture: the sign that it takes or None, the sight behind it or None, and whether it breaks."""

    def __init__(self, step, sign, then, breaks):
        self.step = step
        self.sign = sign
        self.then = then
        self.breaks = breaks


def first_sight(board, marks):
    """The picture at the beginning."""
    return Sight(marks, 0, board.beginning())


def text_of(marks, stage, moment):
    """The text of a picture."""
    state, boxes = moment.sender
    sender = f"{state} {boxes_word(boxes)} {letters_word(moment.down)}"
    state, boxes = moment.receiver
    return f"{marks} {stage} {sender} {state} {boxes_word(boxes)} {answers_word(moment.up)}"


def boxes_word(boxes):
    """The word of the boxes of an end."""
    return "".join([EMPTY if sign is None else sign for sign in boxes])


def letters_word(letters):
    """The word of the letters."""
    if len(letters) == 0:
        return EMPTY
    return "".join([f"{number}{sign}" for number, sign in letters])


def answers_word(answers):
    """The word of the answers."""
    if len(answers) == 0:
        return EMPTY
    return "".join([str(number) for number, _ in answers])


def sight_from(board, value):
    """The sight with this text; None for any value that is no picture of the link."""
    if not isinstance(value, str):
        return None
    words = value.split(" ")
    if len(words) != 8:
        return None
    parts = [
        numeral_in(words[0], 2), numeral_in(words[1], 2),
        numeral_in(words[2], LAST_STATE), boxes_in(words[3], board.players["sender"].size),
        letters_in(words[4], board.lines["down"].capacity),
        numeral_in(words[5], LAST_STATE), boxes_in(words[6], board.players["receiver"].size),
        answers_in(words[7], board.lines["up"].capacity),
    ]
    if any([part is None for part in parts]):
        return None
    marks, stage, sender_state, sender_boxes, letters, receiver_state, receiver_boxes, answers = parts
    moment = Moment((sender_state, sender_boxes), (receiver_state, receiver_boxes), letters, answers)
    if not can_stand(marks, stage, moment):
        return None
    return Sight(marks, stage, moment)


def numeral_in(word, most):
    """The integer from 0 to most that a word writes, None if it writes none."""
    return int(word) if word in NUMERALS[:most + 1] else None


def boxes_in(word, size):
    """The boxes that a word writes, None if it does not write so many."""
    if len(word) != size or not all([sign in (EMPTY, BLANK, *MARKS) for sign in word]):
        return None
    return tuple([None if sign == EMPTY else sign for sign in word])


def letters_in(word, capacity):
    """The letters that a word writes, None if it writes none, or more than the channel holds."""
    if word == EMPTY:
        return ()
    # The signs stand at the odd places; a word with a sign too few has another number of them.
    numbers, signs = word[::2], word[1::2]
    if not is_number_word(numbers, capacity) or len(signs) != len(numbers):
        return None
    if not all([sign in (BLANK, *MARKS) for sign in signs]):
        return None
    return tuple([(int(number), sign) for number, sign in zip(numbers, signs)])


def answers_in(word, capacity):
    """The answers that a word writes, None if it writes none, or more than the channel holds."""
    if word == EMPTY:
        return ()
    if not is_number_word(word, capacity):
        return None
    return tuple([(int(number), None) for number in word])


def is_number_word(word, capacity):
    """Whether a word is made of numbers, at least one, and not more than a channel holds."""
    if not 1 <= len(word) <= capacity:
        return False
    return all([sign in NUMERALS[:LAST_NUMBER + 1] for sign in word])


def can_stand(marks, stage, moment):
    """Whether there can be a picture with these marks at this stage: no mark ahead of its take, and not over."""
    signs = moment.all_messages()
    if marks == 0 and stage > 0:
        return False
    if "a" in signs and stage == 0:
        return False
    if "b" in signs and (marks < 2 or stage < 2):
        return False
    return not is_over(marks, stage, moment)


def is_over(marks, stage, moment):
    """Whether a picture with one mark can never break: `a` was handed out and lies nowhere."""
    return marks == 1 and stage == 2 and "a" not in moment.all_messages()


def turns_of(board, sight):
    """The list of the turns of all steps that can be done, in their order."""
    turns = []
    for step in board.worth_a_try(sight.moment):
        outcome = play(board, sight.moment, step, BLANK)
        if outcome.word is None:
            turns.extend(turns_of_step(board, sight, step, outcome))
    return turns


def turns_of_step(board, sight, step, outcome):
    """The turns of a step with this outcome: of one that takes, first the one with a blank message."""
    if not outcome.taking:
        return [turn_of(sight, step, None, outcome)]
    turns = [turn_of(sight, step, BLANK, outcome)]
    if sight.stage < sight.marks:
        mark = MARKS[sight.stage]
        turns.append(turn_of(sight, step, mark, play(board, sight.moment, step, mark)))
    return turns


def turn_of(sight, step, sign, outcome):
    """The turn of a step that takes this sign, or None, with this outcome."""
    marked = [given for given in outcome.given if given in MARKS]
    stage = sight.stage + 1 if sign in MARKS else sight.stage
    if len(marked) > 0 and sight.marks == 2:
        return Turn(step, sign, None, marked[0] == "b")
    if len(marked) > 0:
        # Handed out twice, by this step alone or by this step and an earlier one.
        if stage == 2 or len(marked) > 1:
            return Turn(step, sign, None, True)
        stage = 2
    if is_over(sight.marks, stage, outcome.moment):
        return Turn(step, sign, None, False)
    return Turn(step, sign, Sight(sight.marks, stage, outcome.moment), False)
