"""Rounds of letters that cost ever more from one order than from another one."""

from forwardlists.asking import run
from forwardlists.blocks import blocks, is_front
from forwardlists.coding import cost, text_behind
from forwardlists.orders import order_error, text_error


def _late_place(rule):
    """Return the least place that is not led to the first one of its block, behind this, with this one."""
    for begin, end in blocks(rule):
        for place in range(begin + 1, end):
            if rule[place] != begin:
                return place, begin
    return None


def _places_ahead(rule, late, begin):
    """Return places at which asks bring what a round at the place late asks for to begin and behind it."""
    goal = rule[late]
    if goal < late:
        return (late, goal) * (late - goal + 1)
    # It stays; but what is asked for behind it, and led ahead of it, pushes it back to there.
    behind = late + 1
    while rule[behind] >= late:
        behind += 1
    return (behind,) * (behind - late + 1) + (rule[behind],)


def gains(rule):
    """Return a gain of rule, or None if there is none."""
    if is_front(rule):
        return None
    order = tuple(range(len(rule)))
    late, begin = _late_place(rule)
    lead = text_behind(rule, order, _places_ahead(rule, late, begin))
    # Asked for at late by turns these cost more than ahead of it, where they stand behind lead.
    return (order, lead, order[rule[late]:late + 1][::-1])


def gains_error(rule, value):
    """Return None if value, any value, is a gain of rule, otherwise what is wrong first."""
    n = len(rule)
    if not isinstance(value, tuple) or len(value) != 3:
        return "form"
    one, lead, text = value
    if order_error(n, one) is not None:
        return "order"
    if text_error(n, lead) is not None:
        return "lead"
    if text_error(n, text) is not None or not 1 <= len(text) <= n:
        return "text"
    other = run(rule, one, lead)
    if run(rule, one, text) != one or run(rule, other, text) != other:
        return "back"
    if cost(rule, one, text) <= cost(rule, other, text):
        return "cost"
    return None
