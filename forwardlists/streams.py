"""Streams: places written by the code words of a table, and read back."""

from forwardlists.bounds import MAX_TEXT
from forwardlists.coding import places_of, text_behind
from forwardlists.errors import BadStream, TooMany


def stream(table, places):
    """Return the words of places, one behind another, as one string."""
    return "".join([table[place] for place in places])


def _place_at(table, value, begin):
    """Return the place whose word begins in value, a string, at the sign begin."""
    for place, word in enumerate(table):
        if value.startswith(word, begin):
            return place
    left = value[begin:]
    if any([word.startswith(left) for word in table]):
        raise BadStream(len(value))
    raise BadStream(begin)


def places_read(table, value):
    """Return the places of which value, any value, is the stream."""
    if not isinstance(value, str):
        raise BadStream(0)
    places = []
    begin = 0
    while begin < len(value):
        place = _place_at(table, value, begin)
        places.append(place)
        begin += len(table[place])
    # A stream that cannot be read is told of first, however long it is.
    if len(places) > MAX_TEXT:
        raise TooMany(MAX_TEXT)
    return tuple(places)


def coded(rule, order, table, text):
    """Return the stream of the places at which the letters of text are found."""
    return stream(table, places_of(rule, order, text))


def decoded(rule, order, table, value):
    """Return the text that value, any value, tells as a stream."""
    return text_behind(rule, order, places_read(table, value))
