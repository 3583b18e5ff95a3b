"""Questions about any values, and the bounds that they ask for."""

LAST_STATE = 23
LAST_BOX = 2
LAST_NUMBER = 5
SIDES = ("sender", "receiver")


def is_integer(value):
    """Whether it is an integer; a bool is none."""
    return isinstance(value, int) and not isinstance(value, bool)


def is_within(value, least, most):
    """Whether it is an integer from least to most."""
    if not is_integer(value) or not is_integer(least) or not is_integer(most):
        return False
    return least <= value <= most


def is_state(value):
    """Whether it is a state of an end."""
    return is_within(value, 0, LAST_STATE)


def is_box(value):
    """Whether it is a box of an end."""
    return is_within(value, 0, LAST_BOX)


def is_number(value):
    """Whether it is a number of letters and answers."""
    return is_within(value, 0, LAST_NUMBER)


def is_name(value):
    """Whether it is a string of 1 to 8 letters from a to z."""
    if not isinstance(value, str) or not 1 <= len(value) <= 8:
        return False
    return all(["a" <= letter <= "z" for letter in value])


def is_side(value):
    """Whether it is the name of a side."""
    return value in SIDES


def ascending(picked, last):
    """The ascending tuple of the integers from 0 to last that are picked."""
    return tuple([value for value in range(last + 1) if value in picked])
