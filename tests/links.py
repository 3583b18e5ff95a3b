"""Links for tests: some of known behaviour, and some by chance."""

from markedpair.channels import Channel, Doubles, Loses, Overtakes
from markedpair.deeds import Answer, Clear, Move, Out, Put, Send, Take
from markedpair.ends import Receiver, Sender
from markedpair.errors import LinkError
from markedpair.links import Link
from markedpair.rows import Row


def one_by_one(numbers):
    """One message at a time, with so many numbers."""
    sender, receiver = [], []
    for at in range(numbers):
        then = (at + 1) % numbers
        sender += [f"{at} empty 0 : take 0 > {at}", f"{at} full 0 : send 0 {at} > {at}"]
        sender += [f"{at} hear {at} full 0 : clear 0 > {then}", f"{at} hear other : - > {at}"]
        receiver += [f"{at} hear {at} : put 0 , out 0 , answer {at} > {then}"]
        receiver += [f"{at} hear other : answer {(at - 1) % numbers} > {at}"]
    return Sender.read(" ; ".join(sender)), Receiver.read(" ; ".join(receiver))


def two_at_a_time(numbers):
    """At most two messages at a time; an answer tells the number that is wanted next."""
    sender, receiver = [], []
    for at in range(numbers):
        one, two = (at + 1) % numbers, (at + 2) % numbers
        sender += [f"{at} empty 0 : take 0 > {at}", f"{at} empty 1 full 0 : take 1 > {at}"]
        sender += [f"{at} full 0 : send 0 {at} > {at}", f"{at} full 1 : send 1 {one} > {at}"]
        sender += [f"{at} hear {one} empty 1 full 0 : clear 0 > {one}", f"{at} hear {one} full 1 : move 1 0 > {one}"]
        if numbers > 2:
            sender += [f"{at} hear {two} full 1 : clear 0 , clear 1 > {two}"]
        sender += [f"{at} hear other : - > {at}"]
        receiver += [f"{at} hear {at} : put 0 , out 0 , answer {one} > {one}", f"{at} hear other : answer {at} > {at}"]
    return Sender.read(" ; ".join(sender)), Receiver.read(" ; ".join(receiver))


# A receiver that hands neighbours out in the wrong order, each of them once.
SWAPPING = (
    Sender.read("0 : take 0 , send 0 0 > 1 ; 1 : take 0 , send 0 1 > 0"),
    Receiver.read("0 hear 0 : put 0 > 0 ; 0 hear 1 full 0 : put 1 , out 1 , out 0 > 0"),
)
# A row that hands one message out twice.
TWICE = (
    Sender.read("0 empty 0 : take 0 , send 0 0 > 0"),
    Receiver.read("0 hear 0 : put 0 , put 1 , out 0 , out 1 > 0"),
)
AGAIN = (
    Sender.read("0 empty 0 : take 0 > 0 ; 0 full 0 : send 0 0 > 0 ; 0 hear 0 full 0 : clear 0 > 0"),
    Receiver.read("0 hear 0 : put 0 , out 0 , answer 0 > 0"),
)
ONCE = (
    Sender.read("0 empty 0 : take 0 , send 0 0 > 1 ; 1 hear 0 : clear 0 > 0"),
    Receiver.read("0 hear 0 : put 0 , out 0 , answer 0 > 0"),
)
# Nothing is ever heard, so nothing is handed out.
DEAF = (Sender.read("0 empty 0 : take 0 > 0 ; 0 full 0 : send 0 0 > 0"), Receiver())

ROUGH = Channel(3, Loses(), Doubles(), Overtakes(2))
PAIRS = [one_by_one(1), one_by_one(2), two_at_a_time(2), two_at_a_time(3), SWAPPING, TWICE, AGAIN, ONCE, DEAF]


def link_of(pair, down="1", up="1"):
    """The link of a pair of ends with the channels of these texts."""
    return Link(*pair, Channel.read(down), Channel.read(up))


def chance_channel(dice, most=2):
    """A channel by chance."""
    faults = [Loses()] * dice.choice([0, 1]) + [Doubles()] * dice.choice([0, 0, 1])
    faults += [Overtakes(dice.choice([1, 2]))] * dice.choice([0, 0, 1])
    return Channel(dice.randint(1, most), *faults)


def small_row(dice, side):
    """A row by chance with few states, numbers and boxes, so that steps can often be done."""
    hear = dice.choice([None, 0, 1, "other"])
    deeds = []
    for _ in range(dice.choice([0, 1, 1, 2, 2, 3])):
        box, number = dice.choice([0, 0, 1]), dice.choice([0, 1])
        if side == "sender":
            lot = [Send(box, number), Send(box, number), Take(box), Take(box), Clear(box), Move(box, 1 - box)]
        else:
            lot = [Out(box), Out(box), Answer(number), Answer(number), Clear(box), Move(box, 1 - box)]
            lot += [Put(box)] * 3 if hear is not None else []
        deeds.append(dice.choice(lot))
    parts = [dice.choice([0, 0, 1, 2]) for _ in range(2)]
    empty = tuple(box for box in range(2) if parts[box] == 1)
    full = tuple(box for box in range(2) if parts[box] == 2)
    state, then = dice.choice([0, 0, 1]), dice.choice([0, 0, 1])
    try:
        return Row(state, *deeds, then=then, hear=hear, empty=empty, full=full)
    except LinkError:
        return small_row(dice, side)


def changed(end, dice, times):
    """An end after so many changes by chance: a row more, a row less, another row."""
    for _ in range(times):
        row = small_row(dice, end.SIDE)
        kind = dice.randrange(3)
        if kind == 0 or len(end) == 0:
            end = end if row in end else end + row
        elif kind == 1:
            end = end.without_row(dice.randrange(len(end)))
        else:
            end = end if row in end else end.with_row(dice.randrange(len(end)), row)
    return end


def chance_link(dice, most=2):
    """A link by chance: mostly a known pair with few changes, else rows by chance."""
    sender, receiver = dice.choice(PAIRS)
    if dice.randrange(4) == 0:
        sender, receiver = changed(Sender(), dice, 6), changed(Receiver(), dice, 5)
    else:
        sender, receiver = changed(sender, dice, dice.choice([0, 0, 1])), changed(receiver, dice, dice.choice([0, 1, 2]))
    return Link(sender, receiver, chance_channel(dice, most), chance_channel(dice, most))
