"""Texts that make one of two orders."""

from forwardlists.blocks import blocks, is_forward, own_rule
from forwardlists.classes import comes_out
from forwardlists.coding import text_behind
from forwardlists.errors import Unfit
from forwardlists.views import view, view_behind


def meets(rule, one, other):
    """Return whether some text makes one of one and other."""
    # What comes of an order is of its class, and two orders of one class can be made one.
    return comes_out(rule, one, other)


def forward_text(part):
    """Return the text that makes any order of these letters, those of one forward block, be part."""
    text = ()
    for letter in part[::-1]:
        # So often asked for it is first in its block, wherever it stood.
        text = text + (letter,) * len(part)
    return text


def _nearest_places(own, seen):
    """Return the fewest places by asks for which, in a first list, a view comes to be plain."""
    plain = tuple(range(len(seen)))
    places = {seen: ()}
    found = [seen]
    done = 0
    while plain not in places:
        now = found[done]
        for place in plain:
            behind = view_behind(own, now, place)
            if behind not in places:
                places[behind] = places[now] + (place,)
                found.append(behind)
        done += 1
    return places[plain]


def part_meeting(own, one, other):
    """Return a text that makes one of one and other, orders of one block that come out of one another by own."""
    return text_behind(own, one, _nearest_places(own, view(one, other)))


def meeting(rule, one, other):
    """Return a text that makes one of one and other."""
    if not meets(rule, one, other):
        raise Unfit()
    text = ()
    for begin, end in blocks(rule):
        own = own_rule(rule, (begin, end))
        if is_forward(own):
            text = text + forward_text(one[begin:end])
        else:
            text = text + part_meeting(own, one[begin:end], other[begin:end])
    return text
