"""The words of a text, and the lines of one, read one after another."""

from markedpair.checks import is_name
from markedpair.errors import BadText


class Words:
    """The words of a text, or of a line of one, and the index of the next one.

    A word that cannot stand there, or is missing, raises BadText with the line and its index.
    """

    def __init__(self, text, line=0):
        if not isinstance(text, str):
            raise BadText(0, 0)
        self.words = text.split(" ")
        self.line = line
        self.at = 0

    def peek(self):
        """The next word, None behind the last one."""
        if self.at == len(self.words):
            return None
        return self.words[self.at]

    def ask(self, word):
        """Whether the next word is this one; if so, it is read."""
        if self.peek() != word:
            return False
        self.at = self.at + 1
        return True

    def one_of(self, choices):
        """Reads one of these words and returns it."""
        return self.read_if(self.peek() in choices)

    def read_if(self, fits):
        """Reads a word and returns it, if it fits."""
        if not fits:
            raise BadText(self.line, self.at)
        self.at = self.at + 1
        return self.words[self.at - 1]

    def some(self):
        """Reads any word that is not empty and returns it."""
        return self.read_if(self.peek() is not None and self.peek() != "")

    def name_besides(self, barred):
        """Reads a name that is none of these and returns it."""
        return self.read_if(is_name(self.peek()) and self.peek() not in barred)

    def integer(self, least, most):
        """Reads an integer from least to most."""
        # Compared as texts, as int would take 01, +1 and 1 with a newline, too.
        return int(self.one_of([str(value) for value in range(least, most + 1)]))

    def close(self):
        """Refuses a further word."""
        if self.at < len(self.words):
            raise BadText(self.line, self.at)


class Page:
    """The lines of a text and the index of the next one."""

    def __init__(self, text):
        if not isinstance(text, str):
            raise BadText(0, 0)
        self.lines = text.split("\n")
        self.at = 0

    def has_more(self):
        """Whether a further line follows."""
        return self.at < len(self.lines)

    def next_words(self):
        """The words of the next line, which must not be missing."""
        if not self.has_more():
            raise BadText(self.at, 0)
        self.at = self.at + 1
        return Words(self.lines[self.at - 1], self.at - 1)

    def close(self):
        """Refuses a further line."""
        if self.has_more():
            raise BadText(self.at, 0)
