"""The two ends of a link: tables of rows, and their texts."""

from markedpair.checks import LAST_BOX, LAST_NUMBER, LAST_STATE
from markedpair.checks import ascending, is_integer, is_number, is_within
from markedpair.errors import BadEnd, BadRow, NoRow, TooMany
from markedpair.rows import Row, row_from
from markedpair.words import Words


def told_rows(rows, side):
    """The tuple of these rows, if an end of this side can have them."""
    for at, row in enumerate(rows):
        if not isinstance(row, Row) or side not in row.sides() or row in rows[:at]:
            raise BadRow(at)
    if len(rows) > End.MOST:
        raise TooMany("rows", End.MOST)
    return rows


def told_at(at, rows):
    """The index, if it is one of these rows."""
    if not is_within(at, 0, len(rows) - 1):
        raise NoRow(at)
    return at


def is_table(value, numbers):
    """Whether any value is a dict from just these numbers to unlike numbers."""
    if not isinstance(value, dict) or len(value) != len(numbers):
        return False
    if not all([is_number(key) and key in numbers for key in value]):
        return False
    told = list(value.values())
    return all([is_number(number) for number in told]) and len(set(told)) == len(told)


class End:
    """The base of senders and receivers; it is not made itself.

    The two below it tell their SIDE, check and keep their rows, and make an end of their own class.
    """

    MOST = 120

    def __len__(self):
        return len(self.rows)

    def __iter__(self):
        return iter(self.rows)

    def __getitem__(self, at):
        return self.rows[told_at(at, self.rows)]

    def __contains__(self, x):
        return isinstance(x, Row) and x in self.rows

    def __add__(self, other):
        return self.made_of([*self.rows, other])

    def __sub__(self, other):
        if other not in self:
            raise NoRow(other)
        return self.made_of([row for row in self.rows if row != other])

    def with_row(self, at, row):
        """The end with this row in the place of the one with this index."""
        rows = list(self.rows)
        rows[told_at(at, self.rows)] = row
        return self.made_of(rows)

    def without_row(self, at):
        """The end without the row with this index."""
        barred = told_at(at, self.rows)
        return self.made_of([row for k, row in enumerate(self.rows) if k != barred])

    def at_state(self, state):
        """The pairs (index, row) of the rows with this state."""
        for at, row in enumerate(self.rows):
            if is_integer(state) and row.state == state:
                yield at, row

    @property
    def boxes(self):
        """How many boxes the end has."""
        named = [box for row in self.rows for box in row.named_boxes()]
        return ascending([0, *named], LAST_BOX)[-1] + 1

    @property
    def states(self):
        """The ascending tuple of 0 and all states of the rows."""
        named = [state for row in self.rows for state in (row.state, row.then)]
        return ascending([0, *named], LAST_STATE)

    @property
    def numbers(self):
        """The ascending tuple of all numbers of the rows."""
        named = [number for row in self.rows for number in row.named_numbers()]
        return ascending(named, LAST_NUMBER)

    def renumbered(self, table):
        """The end with table[n] in the place of each number n."""
        if not is_table(table, self.numbers):
            raise BadEnd("table")
        return self.made_of([row.renumbered(table) for row in self.rows])

    def __eq__(self, other):
        return isinstance(other, End) and self.SIDE == other.SIDE and self.rows == other.rows

    def __str__(self):
        if len(self.rows) == 0:
            return "-"
        return " ; ".join([str(row) for row in self.rows])


class Sender(End):
    """The end that takes messages and sends them as letters."""

    SIDE = "sender"

    def __init__(self, *rows):
        self.rows = told_rows(rows, self.SIDE)

    def made_of(self, rows):
        """A sender with these rows."""
        return Sender(*rows)

    @classmethod
    def read(cls, text):
        """The sender with this text."""
        rows = rows_of(text, cls.SIDE)
        return cls(*rows)


class Receiver(End):
    """The end that hears letters and hands messages out."""

    SIDE = "receiver"

    def __init__(self, *rows):
        self.rows = told_rows(rows, self.SIDE)

    def made_of(self, rows):
        """A receiver with these rows."""
        return Receiver(*rows)

    @classmethod
    def read(cls, text):
        """The receiver with this text."""
        rows = rows_of(text, cls.SIDE)
        return cls(*rows)


def rows_of(text, side):
    """The list of the rows in the text of an end of this side."""
    words = Words(text)
    rows = rows_from(words, side)
    words.close()
    return rows


def rows_from(words, side):
    """Reads the rows of an end of this side."""
    rows = []
    if words.ask("-"):
        return rows
    rows.append(row_from(words, (side,)))
    while words.ask(";"):
        rows.append(row_from(words, (side,)))
    return rows
