"""Fixed lists, of which nothing ever moves, beside a list in which all letters go to the front."""

from forwardlists.coding import cost
from forwardlists.counting import how_often
from forwardlists.gaps import unlike
from forwardlists.rules import front


def fixed_cost(order, counts):
    """Return what order costs as a fixed list, each letter asked as often as counts tells."""
    return sum([place * counts[letter] for place, letter in enumerate(order)])


def best_fixed(counts):
    """Return an order that costs least as a fixed list."""
    return tuple(sorted(range(len(counts)), key=lambda letter: -counts[letter]))


def is_best(order, counts):
    """Return whether no order costs less than this one as a fixed list."""
    return fixed_cost(order, counts) == fixed_cost(best_fixed(counts), counts)


def twice(order, text, plain):
    """Return what text costs from order, and the bound on it that plain as a fixed list sets."""
    n = len(order)
    bound = 2 * fixed_cost(plain, how_often(n, text)) + unlike(order, plain)
    return (cost(front(n), order, text), bound)
