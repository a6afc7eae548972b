"""What texts cost pair by pair, and the least that a text can cost, if all letters go to the front."""

from itertools import combinations

from forwardlists.bounds import MAX_TEXT
from forwardlists.counting import how_often
from forwardlists.errors import TooMany
from forwardlists.summing import summary


def counts_of(n, text):
    """Return how often each of n letters stands in text."""
    return how_often(n, text)


def changes(text, b, c):
    """Return how often one of the letters b and c is asked, and of these two the other one was asked last."""
    left = [letter for letter in text if letter in (b, c)]
    return len([place for place in range(1, len(left)) if left[place] != left[place - 1]])


def pairs_table(n, text):
    """Return the ascending tuple of the triples (b, c, changes) for all pairs of letters b less than c."""
    return tuple([(b, c, changes(text, b, c)) for b, c in combinations(range(n), 2)])


def late(order, text):
    """Return for how many pairs the letter that text asks first stands behind the other one in order."""
    firsts = summary(len(order), text)[1]
    pairs = 0
    for place, letter in enumerate(firsts):
        ahead = order[:order.index(letter)]
        pairs += len([other for other in ahead if other not in firsts[:place]])
    return pairs


def least_cost(order, counts):
    """Return the least cost from order of all texts with these counts."""
    return sum([place for place, letter in enumerate(order) if counts[letter] > 0])


def least_text(order, counts):
    """Return a text with these counts that costs the least from order."""
    if sum(counts) > MAX_TEXT:
        raise TooMany(MAX_TEXT)
    text = ()
    for letter in order:
        text = text + (letter,) * counts[letter]
    return text
