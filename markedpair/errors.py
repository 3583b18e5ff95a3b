"""The errors of this package; each keeps its arguments in attributes of their names."""


class LinkError(ValueError):
    """The base of all errors of this package."""


class BadDeed(LinkError):
    """A deed has a part that it cannot have."""

    def __init__(self, part):
        self.part = part


class BadRow(LinkError):
    """A row has a part that it cannot have, or an end has a row that it cannot have."""

    def __init__(self, part):
        self.part = part


class BadEnd(LinkError):
    """An end was given what it cannot use."""

    def __init__(self, part):
        self.part = part


class BadChannel(LinkError):
    """A channel or a fault has a part that it cannot have, or was given what it cannot use."""

    def __init__(self, part):
        self.part = part


class BadLink(LinkError):
    """A link has a part that it cannot have, or something is no link or no link's part."""

    def __init__(self, part):
        self.part = part


class BadStep(LinkError):
    """A step has a part that it cannot have."""

    def __init__(self, part):
        self.part = part


class BadRun(LinkError):
    """A run has a part that it cannot have, or something is no run or no run's part."""

    def __init__(self, part):
        self.part = part


class BadPicture(LinkError):
    """Something is no picture of a link."""

    def __init__(self, part):
        self.part = part


class BadCount(LinkError):
    """A count is no integer within its bounds."""

    def __init__(self, value):
        self.value = value


class BadLog(LinkError):
    """A log, or the item at an index of it, is none."""

    def __init__(self, at):
        self.at = at


class BadBench(LinkError):
    """A bench has a part that it cannot have, or was given what it cannot use."""

    def __init__(self, part):
        self.part = part


class BadText(LinkError):
    """A word of a line of a text cannot stand there, or is missing."""

    def __init__(self, line, word):
        self.line = line
        self.word = word


class BadCommand(LinkError):
    """A word of a command cannot stand there, or is missing."""

    def __init__(self, word):
        self.word = word


class BadName(LinkError):
    """Something is none of the names that can stand there."""

    def __init__(self, value):
        self.value = value


class NoName(LinkError):
    """A name stands for nothing, or for a thing of another kind."""

    def __init__(self, name):
        self.name = name


class NoRow(LinkError):
    """Something is no row of an end, or no index of one."""

    def __init__(self, at):
        self.at = at


class Blocked(LinkError):
    """A step cannot be done."""

    def __init__(self, word):
        self.word = word


class Nothing(LinkError):
    """There is nothing to take back."""


class TooMany(LinkError):
    """There are more of something than are let."""

    def __init__(self, what, most):
        self.what = what
        self.most = most
