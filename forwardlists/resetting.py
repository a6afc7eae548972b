"""Texts that make one of all orders of a class."""

from forwardlists.asking import run
from forwardlists.blocks import blocks, is_forward, own_rule
from forwardlists.bounds import MAX_CLASS
from forwardlists.classes import all_behind, class_size
from forwardlists.coding import under
from forwardlists.errors import TooMany, Unfit
from forwardlists.meeting import forward_text, part_meeting


def teller(rule, order):
    """Return the text that leads every order whose blocks hold the same letters to order."""
    if not is_forward(rule):
        raise Unfit()
    text = ()
    for begin, end in blocks(rule):
        text = text + forward_text(order[begin:end])
    return text


def _part_reset(own, part):
    """Return a text that makes one of all orders of a block that come out of part by own, its rule."""
    if is_forward(own):
        return forward_text(part)
    text = ()
    # Found for one order, its letters called by their places, it is as long for each other one.
    apart = all_behind(own, tuple(range(len(part))))
    while len(apart) > 1:
        more = part_meeting(own, apart[0], apart[1])
        text = text + more
        apart = sorted(set([run(own, now, more) for now in apart]))
    return under(text, part)


def reset(rule, order):
    """Return a text that makes one of all orders of the class of order."""
    if class_size(rule) > MAX_CLASS:
        raise TooMany(MAX_CLASS)
    text = ()
    for begin, end in blocks(rule):
        text = text + _part_reset(own_rule(rule, (begin, end)), order[begin:end])
    return text
