"""Names and tokens: what texts of books are made of."""

from forwardlists.errors import BadText
from forwardlists.rules import FIGURES

KEYWORDS = (
    "alike", "ask", "behind", "best", "bits", "by", "class", "comes", "cost", "fixed", "from", "gap",
    "least", "letters", "meet", "none", "order", "places", "read", "rule", "span", "summary", "table", "text",
)
SMALL_LETTERS = "abcdefghijklmnopqrstuvwxyz"
SIGNS = ";:"
BLANKS = " \n"
LONGEST_WORD = 8
LONGEST_ROW = 40


def is_name(value):
    """Return whether value, any value, is a name."""
    if not isinstance(value, str) or not 1 <= len(value) <= LONGEST_WORD or value in KEYWORDS:
        return False
    return all([sign in SMALL_LETTERS for sign in value])


def is_row(value, longest):
    """Return whether value, any value, is a string of so many figures at most."""
    if not isinstance(value, str) or len(value) > longest:
        return False
    return all([sign in FIGURES for sign in value])


def _row_end(value, begin, signs):
    """Return the first place from begin on at which value has none of signs."""
    place = begin
    while place < len(value) and value[place] in signs:
        place += 1
    return place


def token_from(value, begin):
    """Return the first token of value, a string, from begin on.

    It is a triple (sort, text, place): sort is "word", "figures" or "sign"; it is
    "end" if there is none, "fault" if something else stands there, both without text.
    """
    place = _row_end(value, begin, BLANKS)
    if place == len(value):
        return ("end", "", place)
    if value[place] in SIGNS:
        return ("sign", value[place], place)
    for sort, signs, longest in (("word", SMALL_LETTERS, LONGEST_WORD), ("figures", FIGURES, LONGEST_ROW)):
        end = _row_end(value, place, signs)
        if place < end <= place + longest:
            return (sort, value[place:end], place)
    return ("fault", "", place)


def tokens(value):
    """Return the tuple of all tokens of value, any value."""
    if not isinstance(value, str):
        raise BadText(0)
    found = []
    token = token_from(value, 0)
    while token[0] != "end":
        sort, text, place = token
        if sort == "fault":
            raise BadText(place)
        found.append(token)
        token = token_from(value, place + len(text))
    return tuple(found)
