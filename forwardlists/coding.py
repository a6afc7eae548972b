"""A coder and a decoder: letters told by their places, and read back."""

from forwardlists.asking import asked


def places_of(rule, order, text):
    """Return, for each letter of text, the place at which it stands when it is asked."""
    places = []
    now = order
    for letter in text:
        places.append(now.index(letter))
        now = asked(rule, now, letter)
    return tuple(places)


def text_behind(rule, order, places):
    """Return the text of which these are the places."""
    text = []
    now = order
    for place in places:
        letter = now[place]
        text.append(letter)
        now = asked(rule, now, letter)
    return tuple(text)


def cost(rule, order, text):
    """Return the places of all letters of text, added up."""
    return sum(places_of(rule, order, text))


def exchange(one, other):
    """Return, for each letter, that of other at the place at which it stands in one."""
    return tuple([other[one.index(letter)] for letter in range(len(one))])


def under(text, swap):
    """Return text with swap[letter] in the place of each letter."""
    return tuple([swap[letter] for letter in text])
