"""The rows of ends: conditions, deeds and the state that follows; and their texts."""

from markedpair.checks import LAST_BOX, LAST_NUMBER, LAST_STATE, SIDES
from markedpair.checks import ascending, is_box, is_number, is_state
from markedpair.deeds import VERBS, Deed, Put, Take, deed_from, verb_is_for
from markedpair.errors import BadRow
from markedpair.words import Words

MOST_DEEDS = 8


def common_sides(deeds):
    """The tuple of the sides for which all these deeds are."""
    return tuple([side for side in SIDES if all([deed.is_for(side) for deed in deeds])])


def how_many_takes(deeds):
    """How many of these deeds take a message."""
    return len([deed for deed in deeds if isinstance(deed, Take)])


def are_deeds(values):
    """Whether these are deeds that one row can have."""
    if len(values) > MOST_DEEDS or not all([isinstance(value, Deed) for value in values]):
        return False
    return len(common_sides(values)) > 0 and how_many_takes(values) <= 1


def is_hearing(hear, deeds):
    """Whether any value is what a row with these deeds can hear."""
    if hear is None:
        return not any([isinstance(deed, Put) for deed in deeds])
    return is_number(hear) or hear == "other"


def are_boxes(value, barred):
    """Whether any value is an ascending tuple of boxes without the barred ones."""
    if not isinstance(value, tuple):
        return False
    if not all([is_box(box) and box not in barred for box in value]):
        return False
    return value == ascending(value, LAST_BOX)


def hear_rank(hear):
    """The place of what is heard in the order of rows: nothing, numbers, other."""
    if hear is None:
        return 0
    if hear == "other":
        return LAST_NUMBER + 2
    return hear + 1


def deeds_text(deeds):
    """The text of these deeds in a row."""
    if len(deeds) == 0:
        return "-"
    return " , ".join([str(deed) for deed in deeds])


def head_text(row):
    """The text of what stands ahead of the deeds of a row."""
    words = [str(row.state)]
    if row.hear is not None:
        words.append(f"hear {row.hear}")
    for name, boxes in (("empty", row.empty), ("full", row.full)):
        if len(boxes) > 0:
            words.append(name)
            words.extend([str(box) for box in boxes])
    return " ".join(words)


class Row:
    """A row of an end: when it can be done, its deeds, and the state that follows."""

    def __init__(self, state, *deeds, then, hear=None, empty=(), full=()):
        if not is_state(state):
            raise BadRow("state")
        if not are_deeds(deeds):
            raise BadRow("deeds")
        if not is_state(then):
            raise BadRow("then")
        if not is_hearing(hear, deeds):
            raise BadRow("hear")
        if not are_boxes(empty, ()):
            raise BadRow("empty")
        if not are_boxes(full, empty):
            raise BadRow("full")
        self.state = state
        self.deeds = deeds
        self.then = then
        self.hear = hear
        self.empty = empty
        self.full = full
        # The text tells the deeds apart, so one key serves both for == and for <.
        self._key = (state, hear_rank(hear), empty, full, deeds_text(deeds), then)

    def sides(self):
        """The tuple of the sides for which all its deeds are."""
        return common_sides(self.deeds)

    def named_boxes(self):
        """The ascending tuple of the boxes that it names."""
        named = [box for deed in self.deeds for box in deed.named_boxes()]
        return ascending([*named, *self.empty, *self.full], LAST_BOX)

    def named_numbers(self):
        """The ascending tuple of its numbers."""
        named = [number for deed in self.deeds for number in deed.named_numbers()]
        return ascending([*named, self.hear], LAST_NUMBER)

    @property
    def takes(self):
        """Whether it takes a message."""
        return how_many_takes(self.deeds) > 0

    def renumbered(self, table):
        """The row with table[n] in the place of each number n."""
        deeds = [deed.renumbered(table) for deed in self.deeds]
        hear = table[self.hear] if is_number(self.hear) else self.hear
        return Row(self.state, *deeds, then=self.then, hear=hear, empty=self.empty, full=self.full)

    def __eq__(self, other):
        if not isinstance(other, Row):
            return NotImplemented
        return self._key == other._key

    def __lt__(self, other):
        if not isinstance(other, Row):
            return NotImplemented
        return self._key < other._key

    def __str__(self):
        return f"{head_text(self)} : {deeds_text(self.deeds)} > {self.then}"

    @classmethod
    def read(cls, text):
        """The row with this text."""
        words = Words(text)
        row = row_from(words, SIDES)
        words.close()
        return row


def row_from(words, sides):
    """Reads a row for one of these sides."""
    state = words.integer(0, LAST_STATE)
    hear = hear_from(words)
    empty = boxes_from(words, "empty", ())
    full = boxes_from(words, "full", empty)
    words.one_of((":",))
    deeds = deeds_from(words, sides, hear)
    words.one_of((">",))
    then = words.integer(0, LAST_STATE)
    return Row(state, *deeds, then=then, hear=hear, empty=empty, full=full)


def hear_from(words):
    """Reads what a row hears, if it says so."""
    if not words.ask("hear"):
        return None
    if words.ask("other"):
        return "other"
    return words.integer(0, LAST_NUMBER)


def boxes_from(words, name, barred):
    """Reads boxes behind this name, none of the barred ones; () if the name does not stand there."""
    left = [str(box) for box in range(LAST_BOX + 1) if box not in barred]
    boxes = []
    # Behind the name a box must follow, so without any that is left it cannot stand.
    if len(left) > 0 and words.ask(name):
        boxes.append(words.one_of(left))
        while words.peek() in left and words.peek() > boxes[-1]:
            boxes.append(words.one_of(left))
    return tuple([int(box) for box in boxes])


def deeds_from(words, sides, hear):
    """Reads the deeds of a row for one of these sides that hears this."""
    deeds = []
    if words.ask("-"):
        return deeds
    deeds.append(deed_from(words, open_verbs(deeds, sides, hear)))
    while len(deeds) < MOST_DEEDS and words.ask(","):
        deeds.append(deed_from(words, open_verbs(deeds, sides, hear)))
    return deeds


def open_verbs(deeds, sides, hear):
    """The verbs that can stand behind these deeds in a row for one of these sides that hears this."""
    common = [side for side in common_sides(deeds) if side in sides]
    barred = []
    if how_many_takes(deeds) > 0:
        barred.append("take")
    if hear is None:
        barred.append("put")
    fitting = [verb for verb in VERBS if any([verb_is_for(verb, side) for side in common])]
    return [verb for verb in fitting if verb not in barred]
