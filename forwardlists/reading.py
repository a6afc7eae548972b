"""Reading tokens one behind another."""

from forwardlists.errors import BadText
from forwardlists.lexing import is_name, token_from


class Reader:
    """What is left of a text; whatever is taken of it but cannot stand there raises BadText with its place."""

    def __init__(self, value):
        if not isinstance(value, str):
            raise BadText(0)
        self._value = value
        # Only the next token is looked at: what is wrong behind it is not found yet.
        self._next = token_from(value, 0)

    def sees(self, text):
        """Return whether the next token has this text."""
        return self._next[1] == text

    def at_end(self):
        """Return whether no token is left."""
        return self._next[0] == "end"

    def refuse(self):
        """Raise BadText: the next token cannot stand there."""
        raise BadText(self._next[2])

    def _take_next(self):
        """Take the next token, and return its text."""
        _, text, place = self._next
        self._next = token_from(self._value, place + len(text))
        return text

    def take(self, text):
        """Take the next token, which has to have this text."""
        if not self.sees(text):
            self.refuse()
        self._take_next()

    def take_one_of(self, words):
        """Take the next token, which has to be one of words; return its text."""
        if self._next[1] not in words:
            self.refuse()
        return self._take_next()

    def take_name(self):
        """Take the next token, which has to be a name; return it."""
        if not is_name(self._next[1]):
            self.refuse()
        return self._take_next()

    def take_figures(self):
        """Take the next token, which has to be a row of figures; return it."""
        if self._next[0] != "figures":
            self.refuse()
        return self._take_next()
