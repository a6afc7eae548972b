"""Texts that cost the same from every order, with every text behind them, if all letters go to the front."""

from itertools import permutations

from forwardlists.summing import behind, cost_from, summary, whole


def alike(n, one, other):
    """Return whether one and other cost the same from every order, with every text behind them."""
    return whole(n, summary(n, one)) == whole(n, summary(n, other))


def _order_apart(n, one, other):
    """Return an order from which texts with these summaries cost otherwise, or None if there is none."""
    # If costs are unlike they are so for some pair, as it stands in the one or in the other order.
    for pair in permutations(range(n), 2):
        order = pair + tuple([letter for letter in range(n) if letter not in pair])
        if cost_from(one, order) != cost_from(other, order):
            return order
    return None


def parted(n, one, other):
    """Return an order, and a text behind which one and other cost otherwise from it; None if they are alike."""
    if alike(n, one, other):
        return None
    first, second = summary(n, one), summary(n, other)
    order = _order_apart(n, first, second)
    if order is not None:
        return (order, ())
    # All costs are equal, so what they lead to is not: a letter at unlike places tells it.
    order = tuple(range(n))
    here, there = behind(first, order), behind(second, order)
    unlike = [letter for letter, stranger in zip(here, there) if letter != stranger]
    return (order, (unlike[0],))
