"""Orders of letters, and texts: rows of letters that are asked for."""

from forwardlists.bounds import MAX_TEXT
from forwardlists.errors import BadOrder, BadText
from forwardlists.integers import is_within
from forwardlists.words import misplaced

SIGNS = "abcdefghijkl"
EMPTY = "none"


def _stranger(n, items):
    """Return the place of the first item that is none of n letters, None if all are."""
    for place, item in enumerate(items):
        if not is_within(item, 0, n - 1):
            return place
    return None


def order_error(n, value):
    """Return None if value, any value, is an order of n letters, otherwise what is wrong first."""
    if not isinstance(value, tuple) or len(value) != n:
        return "form"
    strange = _stranger(n, value)
    if strange is not None:
        return ("letter", strange)
    for place, letter in enumerate(value):
        if letter in value[:place]:
            return ("twice", place)
    return None


def text_error(n, value):
    """Return None if value, any value, is a text of n letters, otherwise what is wrong first."""
    if not isinstance(value, tuple) or len(value) > MAX_TEXT:
        return "form"
    strange = _stranger(n, value)
    if strange is not None:
        return ("letter", strange)
    return None


def _signs_of(letters):
    """Return the signs of letters with a blank between two."""
    return " ".join([SIGNS[letter] for letter in letters])


def order_text(order):
    """Return the text of an order: its letters as signs a to l."""
    return _signs_of(order)


def text_text(text):
    """Return the text of a text: its letters as signs, or "none" if it is empty."""
    if len(text) == 0:
        return EMPTY
    return _signs_of(text)


def _letters_told(value):
    """Return the letters that value, any value, tells by signs with one blank between two."""
    place = misplaced(value, SIGNS, 1)
    if place is not None:
        raise BadText(place)
    return tuple([SIGNS.index(sign) for sign in value.split(" ")])


def _check_empty(value):
    """Raise BadText if value, a string, is not the word that stands for the empty text."""
    for place, sign in enumerate(value):
        if sign != EMPTY[place:place + 1]:
            raise BadText(place)
    if len(value) < len(EMPTY):
        raise BadText(len(value))


def read_order(n, value):
    """Return the order of n letters of which value, any value, is the text."""
    order = _letters_told(value)
    error = order_error(n, order)
    if error is not None:
        raise BadOrder(error)
    return order


def read_text(n, value):
    """Return the text of n letters of which value, any value, is the text."""
    # No letter is written "n", so whatever begins with it can only be the word.
    if isinstance(value, str) and value.startswith("n"):
        _check_empty(value)
        return ()
    text = _letters_told(value)
    error = text_error(n, text)
    if error is not None:
        raise BadOrder(error)
    return text
