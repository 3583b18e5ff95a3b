"""Which rows of a link are used by its runs, and which ones are idle."""

from markedpair.checks import SIDES, is_side, is_within
from markedpair.ends import Receiver, Sender
from markedpair.errors import BadStep, NoRow
from markedpair.guides import Guide
from markedpair.links import Link, need_link
from markedpair.searches import Search, need_limit
from markedpair.steps import Lose


class Idle:
    """A paper: the pictures without marks that are reached, and the rows that can be done in none of them."""

    def __init__(self, table, rows):
        self.table = table
        self.rows = rows

    def __eq__(self, other):
        return isinstance(other, Idle) and self.table == other.table and self.rows == other.rows


def end_of(link, side):
    """The end of a link on this side."""
    return link.sender if side == "sender" else link.receiver


def all_rows(link):
    """The list of the pairs (side, index) of all rows of a link."""
    return [(side, at) for side in SIDES for at in range(len(end_of(link, side)))]


def row_of(step):
    """The pair (side, index) of the row that a step does, None if it does none."""
    return None if isinstance(step, Lose) else (step.side, step.at)


class Uses:
    """A search of all pictures without marks, and where each row that is done is done first."""

    def __init__(self, link, limit):
        self.search = Search(Guide(link), 0)
        # By row: the picture and the turn from there.
        self.first = {}
        while len(self.search.level) > 0:
            for sight, turns in self.search.advance_and_tell():
                for turn in turns:
                    self.first.setdefault(row_of(turn[0]), (sight, turn))
            self.search.need_at_most(limit)

    def steps_to(self, row):
        """The tuple of the steps of a shortest run whose last one does this row, None if it is idle."""
        if row not in self.first:
            return None
        return tuple([step for step, _, _, _ in self.search.turns_to(self.first[row])])


def idle_rows(link, limit=5000):
    """An Idle with all pictures without marks that are reached, and all idle rows."""
    need_link(link, "link")
    need_limit(limit)
    uses = Uses(link, limit)
    rows = [row for row in all_rows(link) if row not in uses.first]
    return Idle(uses.search.pictures(), tuple(rows))


def first_use(link, side, at, limit=5000):
    """The tuple of the steps of a shortest run whose last one does this row, None if it is idle."""
    need_link(link, "link")
    if not is_side(side):
        raise BadStep("side")
    if not is_within(at, 0, len(end_of(link, side)) - 1):
        raise NoRow(at)
    need_limit(limit)
    return Uses(link, limit).steps_to((side, at))


def without_idle(link, limit=5000):
    """The link without its idle rows, but for those that keep a row from hearing a number."""
    idle = idle_rows(link, limit).rows
    sender, receiver = [left_rows(link, side, idle) for side in SIDES]
    return Link(Sender(*sender), Receiver(*receiver), link.down, link.up)


def left_rows(link, side, idle):
    """The rows of an end that stay when these pairs (side, index) of rows are idle."""
    rows = list(end_of(link, side))
    open_states = [row.state for row in rows if row.hear == "other"]
    left = []
    for at, row in enumerate(rows):
        # What hears a number keeps `other` from hearing it, whether or not its own deeds can be done.
        is_rival = row.hear is not None and row.hear != "other" and row.state in open_states
        if (side, at) not in idle or is_rival:
            left.append(row)
    return left
