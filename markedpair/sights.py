"""Pictures as tuples, and their texts.

A sight is a picture without its number of marks: its stage; the state and the boxes of the sender, as in its text; the
signs of the letters; the state and the boxes of the receiver; the signs of the answers. Nothing stands for no letters
or no answers. So what rows do to one of the five parts can be kept and used again for all pictures that have it.
"""

MARKS = ("a", "b")
BLANK = "."
EMPTY = "-"
NUMBERS = "012345"
# What stands in boxes, and what in letters.
BOX_SIGNS = "-.ab"
LETTER_SIGNS = ".ab"
STATES = (
    "0", "1", "2", "3", "4", "5", "6", "7", "8", "9", "10", "11",
    "12", "13", "14", "15", "16", "17", "18", "19", "20", "21", "22", "23",
)
# The words of stages, and of numbers of marks.
STAGES = ("0", "1", "2")
# How many characters a letter and an answer have.
LETTER_SIZE = 2
ANSWER_SIZE = 1


def text_of(marks, sight):
    """The text of a picture."""
    stage, sender, letters, receiver, answers = sight
    letters_word = EMPTY if letters == "" else letters
    answers_word = EMPTY if answers == "" else answers
    return f"{marks} {stage} {sender} {letters_word} {receiver} {answers_word}"


def own_text(state, cells):
    """The state and the boxes of an end as in the text of a picture, where these signs, or None, are in its boxes."""
    boxes = "".join([EMPTY if sign is None else sign for sign in cells])
    return f"{state} {boxes}"


def cells_of(own):
    """The list of the signs, or None, in the boxes of an end."""
    return [None if sign == EMPTY else sign for sign in own.split(" ")[1]]


def letters_text(letters):
    """The signs of letters: pairs of a number and the sign of a message."""
    return "".join([f"{number}{sign}" for number, sign in letters])


def answers_text(answers):
    """The signs of answers: pairs of a number and None."""
    return "".join([str(number) for number, _ in answers])


def sight_of(stage, moment):
    """The sight at a moment with signs in the place of messages."""
    state, cells = moment.sender
    sender = own_text(state, cells)
    state, cells = moment.receiver
    return stage, sender, letters_text(moment.down), own_text(state, cells), answers_text(moment.up)


def is_over(marks, sight):
    """Whether a picture with one mark can never break: `a` was handed out and lies nowhere."""
    stage, sender, letters, receiver, _ = sight
    return marks == 1 and stage == 2 and "a" not in sender and "a" not in letters and "a" not in receiver


def sight_from(board, value):
    """The pair of the number of marks and the sight with this text; None for any value that is no picture."""
    if not isinstance(value, str):
        return None
    words = value.split(" ")
    if len(words) != 8:
        return None
    marks, stage, sender_state, sender_boxes, letters, receiver_state, receiver_boxes, answers = words
    if marks not in STAGES or stage not in STAGES or not can_stand(marks, stage, value):
        return None
    if not are_own_words(board.players["sender"], sender_state, sender_boxes):
        return None
    if not are_own_words(board.players["receiver"], receiver_state, receiver_boxes):
        return None
    if not is_letters_word(letters, board.lines["down"].capacity):
        return None
    if not is_answers_word(answers, board.lines["up"].capacity):
        return None
    held = "" if letters == EMPTY else letters
    told = "" if answers == EMPTY else answers
    sender, receiver = f"{sender_state} {sender_boxes}", f"{receiver_state} {receiver_boxes}"
    return int(marks), (int(stage), sender, held, receiver, told)


def can_stand(marks, stage, text):
    """Whether a picture can have these marks at this stage: no mark ahead of its take, and not over.

    In a picture `a` and `b` stand for nothing but marks.
    """
    if marks == "0":
        return stage == "0" and "a" not in text and "b" not in text
    if marks == "1":
        # The marked message can lie nowhere only until it was handed out.
        return "b" not in text and (stage == "1" or (stage == "2") == ("a" in text))
    return (stage != "0" or "a" not in text) and (stage == "2" or "b" not in text)


def are_own_words(player, state, boxes):
    """Whether words write a state and the boxes of an end."""
    return state in STATES and len(boxes) == player.size and boxes.strip(BOX_SIGNS) == ""


def is_letters_word(word, capacity):
    """Whether a word writes letters, not more than a channel holds."""
    if word == EMPTY:
        return True
    numbers, signs = word[::LETTER_SIZE], word[1::LETTER_SIZE]
    if not 1 <= len(signs) == len(numbers) <= capacity:
        return False
    return numbers.strip(NUMBERS) == "" and signs.strip(LETTER_SIGNS) == ""


def is_answers_word(word, capacity):
    """Whether a word writes answers, not more than a channel holds."""
    return word == EMPTY or 1 <= len(word) <= capacity and word.strip(NUMBERS) == ""
