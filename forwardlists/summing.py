"""Summaries of texts: what these cost from every order, if all letters go to the front.

A summary is a triple (turns, firsts, lasts): firsts and lasts are the letters of the
text in the order in which they are asked first, and in which they are asked last; turns
are, for all asks but the first ones of each letter together, how many other letters
were asked since this letter was asked last.
"""

from forwardlists.errors import Unfit
from forwardlists.integers import is_number, is_within

NOTHING = (0, (), ())


def _together(letters, others):
    """Return letters, and behind them those of others that are not among them."""
    return letters + tuple([letter for letter in others if letter not in letters])


def joined(one, other):
    """Return the summary of two texts, one behind the other, from their summaries."""
    turns, firsts, lasts = one
    more, further, latest = other
    for place, letter in enumerate(further):
        if letter in lasts:
            # Asked last in the one text, it has behind it what was asked since, in both.
            since = lasts[lasts.index(letter) + 1:]
            turns = turns + len(_together(since, further[:place]))
    left = tuple([letter for letter in lasts if letter not in latest])
    return (turns + more, _together(firsts, further), left + latest)


def summary(n, text):
    """Return the summary of text, a text of n letters."""
    sums = NOTHING
    for letter in text:
        sums = joined(sums, (0, (letter,), (letter,)))
    return sums


def _pair_turns(firsts, lasts, letter, other):
    """Return the least turns between letter and other, which is asked first behind it."""
    ahead = lasts[:lasts.index(letter)]
    if other in ahead:
        return 1
    later = firsts[firsts.index(other) + 1:]
    if any([further in ahead for further in later]):
        return 2
    return 0


def least_turns(firsts, lasts):
    """Return the least turns that a text with these firsts and lasts has."""
    turns = 0
    for place, letter in enumerate(firsts):
        for other in firsts[place + 1:]:
            turns = turns + _pair_turns(firsts, lasts, letter, other)
    return turns


def _first_wrong(n, letters):
    """Return the place of the first item that is none of n letters, or stands there ahead; None if there is none."""
    for place, letter in enumerate(letters):
        if not is_within(letter, 0, n - 1) or letter in letters[:place]:
            return place
    return None


def _can_turn(turns, firsts, lasts):
    """Return whether some text with these firsts and lasts has so many turns."""
    if len(firsts) <= 1:
        return turns == 0
    more = turns - least_turns(firsts, lasts)
    return more >= 0 and more % 2 == 0


def summary_error(n, value):
    """Return None if value, any value, is the summary of some text of n letters, otherwise what is wrong first."""
    if not isinstance(value, tuple) or len(value) != 3:
        return "form"
    turns, firsts, lasts = value
    if not is_number(turns) or turns < 0 or not isinstance(firsts, tuple) or not isinstance(lasts, tuple):
        return "form"
    place = _first_wrong(n, firsts)
    if place is not None:
        return ("firsts", place)
    if _first_wrong(n, lasts) is not None or sorted(lasts) != sorted(firsts):
        return "lasts"
    if not _can_turn(turns, firsts, lasts):
        return "turns"
    return None


def cost_from(sums, order):
    """Return the cost from order of the texts whose summary is sums."""
    turns, firsts, _ = sums
    ahead = [_together(firsts[:place], order[:order.index(letter)]) for place, letter in enumerate(firsts)]
    return turns + sum([len(letters) for letters in ahead])


def behind(sums, order):
    """Return the order to which the texts whose summary is sums lead from order."""
    return _together(sums[2][::-1], order)


def least_from(n, sums):
    """Return the least cost of the texts whose summary is sums, over all orders."""
    many = len(sums[1])
    return sums[0] + many * (many - 1) // 2


def most_from(n, sums):
    """Return the greatest cost of the texts whose summary is sums, over all orders."""
    return sums[0] + len(sums[1]) * (n - 1)


def order_with(n, sums, number):
    """Return an order from which the texts whose summary is sums cost number, any value."""
    if not is_within(number, least_from(n, sums), most_from(n, sums)):
        raise Unfit()
    firsts = sums[1]
    left = number - least_from(n, sums)
    order = tuple([letter for letter in range(n) if letter not in firsts])
    for letter in firsts[::-1]:
        # It costs one more for each letter ahead of it that is asked later, or never.
        place = min(left, len(order))
        order = order[:place] + (letter,) + order[place:]
        left = left - place
    return order


def whole(n, sums):
    """Return sums in the one form that all texts have which always cost the same."""
    turns, firsts, lasts = sums
    if len(firsts) != n - 1:
        return sums
    # The one letter that is not asked stands last behind the text, as if it were asked ahead of all others.
    missing = tuple([letter for letter in range(n) if letter not in firsts])
    return (turns - (n - 1), firsts + missing, missing + lasts)
