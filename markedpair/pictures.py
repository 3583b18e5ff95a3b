"""Pictures of runs with marked messages, as texts; what steps make of them, and which ones are reached."""

from markedpair.checks import is_within
from markedpair.errors import BadCount, BadPicture
from markedpair.guides import Guide
from markedpair.links import need_link
from markedpair.plays import Board
from markedpair.searches import Search, need_limit
from markedpair.sights import BLANK, MARKS, sight_from, text_of


class Change:
    """A paper: a step, the sign that it takes or None, the picture behind it or None, and whether it breaks."""

    def __init__(self, step, sign, then, breaks):
        self.step = step
        self.sign = sign
        self.then = then
        self.breaks = breaks

    def __eq__(self, other):
        if not isinstance(other, Change) or self.step != other.step or self.sign != other.sign:
            return False
        return self.then == other.then and self.breaks == other.breaks


def need_marks(marks):
    """Refuses any value that is no number of marks."""
    if not is_within(marks, 0, len(MARKS)):
        raise BadCount(marks)


def start(link, marks):
    """The picture at the beginning."""
    need_link(link, "link")
    need_marks(marks)
    return text_of(marks, Guide(link).first_sight())


def is_picture(link, value):
    """Whether any value is a picture of the link."""
    need_link(link, "link")
    return sight_from(Board(link), value) is not None


def moves(link, picture):
    """The Changes of all steps that can be done, in the order of the open steps of a run."""
    need_link(link, "link")
    guide = Guide(link)
    found = sight_from(guide.board, picture)
    if found is None:
        raise BadPicture("picture")
    marks, sight = found
    for step, sign, then, breaks in guide.turns_of(marks, sight):
        yield Change(step, sign, None if then is None else text_of(marks, then), breaks)


def reached(link, marks, limit=5000):
    """The ascending tuple of all pictures that rows of steps lead to."""
    need_link(link, "link")
    need_marks(marks)
    need_limit(limit)
    search = Search(Guide(link), marks)
    search.run_out(limit)
    return search.pictures()


def unmarked(picture):
    """The picture with all marks made blank."""
    words = picture.split(" ")
    for at in (3, 4, 6):
        for mark in MARKS:
            words[at] = words[at].replace(mark, BLANK)
    return " ".join(["0", "0"] + words[2:])
