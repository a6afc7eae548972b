"""Papers: what is told, so that a judge who runs it or looks at it once needs no search."""

from forwardlists.alike import alike, parted
from forwardlists.asking import run
from forwardlists.blocks import blocks, is_front
from forwardlists.bounds import MAX_RUNGS
from forwardlists.classes import least_order
from forwardlists.coding import cost
from forwardlists.errors import TooMany
from forwardlists.gaining import gains, gains_error
from forwardlists.gaps import gap, gap_text
from forwardlists.integers import is_same, is_within
from forwardlists.meeting import meeting, meets
from forwardlists.orders import order_error, text_error
from forwardlists.rules import front
from forwardlists.summing import cost_from, least_from, most_from


def _begins(value, many, word):
    """Return whether value, any value, is a tuple of so many items that begins with word."""
    return isinstance(value, tuple) and len(value) == many and value[0] == word


def gap_paper(rule, one, other):
    """Return a paper on how much more a text can cost from one than from other."""
    if not is_front(rule):
        return ("endless",) + gains(rule)
    return ("most", gap(rule, one, other), gap_text(rule, one, other))


def _endless_error(rule, value):
    """Return None if value, any value, shows that rule bounds no gaps, otherwise what is wrong first."""
    if not _begins(value, 4, "endless"):
        return "form"
    error = gains_error(rule, value[1:])
    return None if error is None else ("gains", error)


def gap_paper_error(rule, one, other, value):
    """Return None if value, any value, is a gap paper, otherwise what is wrong first."""
    if not is_front(rule):
        return _endless_error(rule, value)
    most = gap(rule, one, other)
    if not _begins(value, 3, "most"):
        return "form"
    _, number, text = value
    if not is_same(number, most):
        return "number"
    if text_error(len(rule), text) is not None or cost(rule, one, text) - cost(rule, other, text) != most:
        return "text"
    return None


def meeting_paper(rule, one, other):
    """Return a paper on whether some text makes one of one and other."""
    if meets(rule, one, other):
        return ("text", meeting(rule, one, other))
    return ("class", least_order(rule, one), least_order(rule, other))


def _makes_one(rule, one, other, text):
    """Return whether text, any value, is a text that makes one of one and other."""
    return text_error(len(rule), text) is None and run(rule, one, text) == run(rule, other, text)


def _letter_parts(rule, one, other, letter, block):
    """Return whether block is one of rule's, and letter stands in it in just one of both orders; both any values."""
    if not is_within(letter, 0, len(rule) - 1):
        return False
    for begin, end in blocks(rule):
        if is_same(block, (begin, end)):
            return (letter in one[begin:end]) != (letter in other[begin:end])
    return False


def _class_parts(rule, one, other, told):
    """Return whether told, a pair of any values, is those of the least orders of both classes, which are unlike."""
    try:
        least, further = least_order(rule, one), least_order(rule, other)
    except TooMany:
        return False
    return least != further and is_same(told, (least, further))


def meeting_paper_error(rule, one, other, value):
    """Return None if value, any value, is a meeting paper, otherwise what is wrong first."""
    if _begins(value, 2, "text"):
        right = _makes_one(rule, one, other, value[1])
    elif _begins(value, 3, "letter"):
        right = _letter_parts(rule, one, other, value[1], value[2])
    elif _begins(value, 3, "class"):
        right = _class_parts(rule, one, other, value[1:])
    else:
        return "form"
    return None if right else value[0]


def alike_paper(n, one, other):
    """Return a paper on whether one and other cost the same from every order, whatever comes behind them."""
    apart = parted(n, one, other)
    return ("alike",) if apart is None else ("apart",) + apart


def alike_paper_error(n, one, other, value):
    """Return None if value, any value, is an alike paper, otherwise what is wrong first."""
    if _begins(value, 1, "alike"):
        return None if alike(n, one, other) else "alike"
    if not _begins(value, 3, "apart"):
        return "form"
    _, order, more = value
    if order_error(n, order) is not None:
        return "order"
    if text_error(n, more) is not None:
        return "text"
    if cost(front(n), order, one + more) == cost(front(n), order, other + more):
        return "cost"
    return None


def ladder(n, sums):
    """Return a ladder of sums: orders from the least to the greatest cost, neighbours exchanged at each step."""
    firsts = sums[1]
    rungs = [firsts + tuple([letter for letter in range(n) if letter not in firsts])]
    for start in range(len(firsts) - 1, -1, -1):
        # The letter at start goes behind all others, also those that have gone there ahead of it.
        for place in range(start, n - 1):
            order = rungs[-1]
            rungs.append(order[:place] + (order[place + 1], order[place]) + order[place + 2:])
    return tuple(rungs)


def _is_step(one, other):
    """Return whether other comes of one by the exchange of two letters that stand side by side."""
    moved = [place for place in range(len(one)) if one[place] != other[place]]
    return len(moved) == 2 and moved[1] - moved[0] == 1


def ladder_error(n, sums, value):
    """Return None if value, any value, is a ladder of sums, otherwise what is wrong first."""
    if not isinstance(value, tuple) or not 1 <= len(value) <= MAX_RUNGS:
        return "form"
    for place, order in enumerate(value):
        if order_error(n, order) is not None:
            return ("order", place)
    for place in range(1, len(value)):
        if not _is_step(value[place - 1], value[place]):
            return ("step", place)
    if cost_from(sums, value[0]) > least_from(n, sums):
        return "least"
    if cost_from(sums, value[-1]) < most_from(n, sums):
        return "greatest"
    return None
