"""Families of pairs of ends: one message at a time, a window that is answered for all so far, or each by itself.

The sums of numbers are taken modulo how many numbers there are.
"""

from markedpair.channels import Channel
from markedpair.checks import is_within
from markedpair.deeds import Answer, Clear, Move, Out, Put, Send, Take
from markedpair.ends import Receiver, Sender
from markedpair.errors import BadChannel, BadCount, BadName
from markedpair.judged import judge
from markedpair.links import Link
from markedpair.rows import Row

MOST_NUMBERS = 6
# The greatest window of each kind.
MOST_WINDOWS = {"one_by_one": 1, "all_so_far": 3, "each_by_itself": 2}


def need_count(value, most):
    """Refuses any value that is no integer from 1 to most."""
    if not is_within(value, 1, most):
        raise BadCount(value)


def need_window(kind, window):
    """Refuses any value that is no window of this kind."""
    need_count(window, MOST_WINDOWS[kind])


def need_numbers(numbers):
    """Refuses any value that is no number of numbers."""
    need_count(numbers, MOST_NUMBERS)


def taking_row(state, box):
    """The row that takes a message into the first empty box."""
    full = () if box == 0 else (box - 1,)
    return Row(state, Take(box), then=state, empty=(box,), full=full)


def sending_row(state, box, number):
    """The row that sends a copy of a full box."""
    return Row(state, Send(box, number), then=state, full=(box,))


def silent_row(state):
    """The row that passes over an answer."""
    return Row(state, then=state, hear="other")


def accepting_row(number, answer, then):
    """The row that hands out the message that is heard."""
    return Row(number, Put(0), Out(0), Answer(answer), then=then, hear=number)


def one_by_one(numbers):
    """One message at a time."""
    need_numbers(numbers)
    receiver = []
    for at in range(numbers):
        receiver.append(accepting_row(at, at, (at + 1) % numbers))
        receiver.append(Row(at, Answer((at - 1) % numbers), then=at, hear="other"))
    return single_sender(numbers), Receiver(*receiver)


def single_sender(numbers):
    """The sender that keeps one message at a time."""
    rows = []
    for at in range(numbers):
        rows.append(taking_row(at, 0))
        rows.append(sending_row(at, 0, at))
        rows.append(Row(at, Clear(0), then=(at + 1) % numbers, hear=at, full=(0,)))
        rows.append(silent_row(at))
    return Sender(*rows)


def all_so_far(window, numbers):
    """A window of messages; an answer tells the number that is wanted next."""
    need_window("all_so_far", window)
    need_numbers(numbers)
    sender, receiver = [], []
    for at in range(numbers):
        sender.extend(window_rows(at, window, numbers))
        behind = (at + 1) % numbers
        receiver.append(accepting_row(at, behind, behind))
        receiver.append(Row(at, Answer(at), then=at, hear="other"))
    return Sender(*sender), Receiver(*receiver)


def window_rows(state, window, numbers):
    """The rows of one state of the sender of all_so_far."""
    rows = [taking_row(state, box) for box in range(window)]
    rows.extend([sending_row(state, box, (state + box) % numbers) for box in range(window)])
    for many in range(1, min(int(window), numbers - 1) + 1):
        for filled in range(many, window + 1):
            rows.append(shifting_row(state, many, filled, window, numbers))
    rows.append(silent_row(state))
    return rows


def shifting_row(state, many, filled, window, numbers):
    """The row that hears that so many messages arrived while so many boxes are full."""
    deeds = [Move(box, box - many) for box in range(many, filled)]
    deeds.extend([Clear(box) for box in range(filled - many, many)])
    number = (state + many) % numbers
    empty = (filled,) if filled < window else ()
    full = (filled - 1,)
    return Row(state, *deeds, then=number, hear=number, empty=empty, full=full)


def each_by_itself(window, numbers):
    """A window of messages; each letter is answered by its own number."""
    need_window("each_by_itself", window)
    need_numbers(numbers)
    if window == 1:
        return single_sender(numbers), single_receiver(numbers)
    rows = [row for at in range(numbers) for row in rows_of_two(at, numbers)]
    rows.extend([row for at in range(numbers) for row in rows_of_second(at, numbers)])
    return Sender(*rows), early_receiver(numbers)


def rows_of_two(state, numbers):
    """The rows of a state in which the first message of the window is not answered."""
    behind = (state + 1) % numbers
    return [
        taking_row(state, 0),
        taking_row(state, 1),
        sending_row(state, 0, state),
        sending_row(state, 1, behind),
        Row(state, Clear(0), then=behind, hear=state, empty=(1,), full=(0,)),
        Row(state, Move(1, 0), then=behind, hear=state, full=(0, 1)),
        Row(state, Clear(1), then=numbers + state, hear=behind, full=(1,)),
        silent_row(state),
    ]


def rows_of_second(number, numbers):
    """The rows of a state in which only the second message of the window is answered."""
    state = numbers + number
    return [
        Row(state, Send(0, number), then=state, full=(0,)),
        Row(state, Clear(0), then=(number + 2) % numbers, hear=number, full=(0,)),
        silent_row(state),
    ]


def single_receiver(numbers):
    """The receiver that keeps nothing and answers each letter by its number."""
    rows = []
    for at in range(numbers):
        rows.append(accepting_row(at, at, (at + 1) % numbers))
        rows.extend(answering_rows(at, (at,), numbers))
    return Receiver(*rows)


def early_receiver(numbers):
    """The receiver that keeps an early message in box 1."""
    rows = []
    for at in range(numbers):
        one, two = (at + 1) % numbers, (at + 2) % numbers
        rows.append(Row(at, Put(0), Out(0), Answer(at), then=one, hear=at, empty=(1,)))
        rows.append(Row(at, Put(0), Out(0), Out(1), Answer(at), then=two, hear=at, full=(1,)))
        if numbers > 1:
            rows.append(Row(at, Put(1), Answer(one), then=at, hear=one))
        rows.extend(answering_rows(at, (at, one), numbers))
    return Receiver(*rows)


def answering_rows(state, barred, numbers):
    """The rows that answer each number but the barred ones."""
    return [Row(state, Answer(other), then=state, hear=other) for other in range(numbers) if other not in barred]


def least_numbers(kind, window, down, up, limit=5000):
    """The least number of numbers with which the pair of a kind is kept between these channels, or None."""
    if kind not in list(MOST_WINDOWS):
        raise BadName(kind)
    need_window(kind, window)
    if not isinstance(down, Channel):
        raise BadChannel("down")
    if not isinstance(up, Channel):
        raise BadChannel("up")
    for numbers in range(1, MOST_NUMBERS + 1):
        sender, receiver = pair_of(kind, window, numbers)
        if judge(Link(sender, receiver, down, up), limit):
            return numbers
    return None


def pair_of(kind, window, numbers):
    """The pair of ends of a kind."""
    if kind == "one_by_one":
        return one_by_one(numbers)
    if kind == "all_so_far":
        return all_so_far(window, numbers)
    return each_by_itself(window, numbers)
