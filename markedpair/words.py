"""The words of a text, read one after another."""

from markedpair.errors import BadText


class Words:
    """The words of a text and the index of the next one.

    A word that cannot stand there, or is missing, raises BadText(0, index).
    """

    def __init__(self, text):
        if not isinstance(text, str):
            raise BadText(0, 0)
        self.words = text.split(" ")
        self.at = 0

    def peek(self):
        """The next word, None behind the last one."""
        if self.at == len(self.words):
            return None
        return self.words[self.at]

    def ask(self, word):
        """Whether the next word is this one; if so, it is read."""
        if self.peek() != word:
            return False
        self.at = self.at + 1
        return True

    def one_of(self, choices):
        """Reads one of these words and returns it."""
        word = self.peek()
        if word not in choices:
            raise BadText(0, self.at)
        self.at = self.at + 1
        return word

    def integer(self, least, most):
        """Reads an integer from least to most."""
        # Compared as texts, as int would take 01, +1 and 1 with a newline, too.
        return int(self.one_of([str(value) for value in range(least, most + 1)]))

    def close(self):
        """Refuses a further word."""
        if self.at < len(self.words):
            raise BadText(0, self.at)
