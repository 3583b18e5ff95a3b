"""The looker at papers about idle rows: it does each step of each picture of a table, and searches nothing."""

from markedpair.checks import is_integer
from markedpair.guides import Guide
from markedpair.links import need_link
from markedpair.look_judged import is_ascending, is_closed, sights_of
from markedpair.used import Idle, all_rows, row_of


def shows_idle(link, value):
    """Whether any value is an Idle that shows what it says."""
    need_link(link, "link")
    if not isinstance(value, Idle) or not are_rows(value.rows):
        return False
    guide = Guide(link)
    sights = sights_of(guide.board, value.table, 0)
    if sights is None or not is_ascending(value.table) or not is_closed(guide, sights, 0):
        return False
    used = {}
    for sight in sights:
        for step, _, _, _ in guide.turns_of(0, sight):
            used[row_of(step)] = True
    return value.rows == tuple([row for row in all_rows(link) if row not in used])


def are_rows(value):
    """Whether any value is a tuple of pairs of any value and an integer."""
    if not isinstance(value, tuple):
        return False
    # True equals 1, but is no index.
    return all([isinstance(pair, tuple) and len(pair) == 2 and is_integer(pair[1]) for pair in value])
