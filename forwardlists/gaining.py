"""Rounds of letters that cost ever more from one order than from another one."""

from forwardlists.asking import run
from forwardlists.blocks import blocks, is_front
from forwardlists.coding import cost, text_behind
from forwardlists.orders import order_error, text_error


def _late_place(rule):
    """Return the least place behind the first one of its block that is not led to this first one."""
    for begin, end in blocks(rule):
        for place in range(begin + 1, end):
            if rule[place] != begin:
                return place
    return None


def _places_to_front(rule, late):
    """Return places of asks by which the letters from rule[late] to late come to the front of their block."""
    goal = rule[late]
    if goal < late:
        # From late to goal, from there to the front: then the next letter stands at late.
        return (late, goal) * (late - goal + 1)
    # The one letter stays; but asks for what stands behind it, and goes ahead of it, push it back to there.
    behind = late + 1
    while rule[behind] >= late:
        behind += 1
    return (behind,) * (behind - late + 1) + (rule[behind],)


def gains(rule):
    """Return a gain of rule, or None if there is none."""
    if is_front(rule):
        return None
    order = tuple(range(len(rule)))
    late = _late_place(rule)
    lead = text_behind(rule, order, _places_to_front(rule, late))
    # In this round each letter is found at late; behind lead all are found ahead of it.
    return (order, lead, order[rule[late]:late + 1][::-1])


def gains_error(rule, value):
    """Return None if value, any value, is a gain of rule, otherwise what is wrong first."""
    n = len(rule)
    if not isinstance(value, tuple) or len(value) != 3:
        return "form"
    one, lead, text = value
    if order_error(n, one) is not None:
        return "order"
    if text_error(n, lead) is not None:
        return "lead"
    if text_error(n, text) is not None or not 1 <= len(text) <= n:
        return "text"
    other = run(rule, one, lead)
    if run(rule, one, text) != one or run(rule, other, text) != other:
        return "back"
    if cost(rule, one, text) <= cost(rule, other, text):
        return "cost"
    return None
