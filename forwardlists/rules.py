"""Rules: for each place of a list, where a letter goes that is asked for there."""

from forwardlists.bounds import MAX_PLACES
from forwardlists.errors import BadRule, BadText
from forwardlists.integers import is_within
from forwardlists.words import misplaced

FIGURES = "0123456789"


def rule_error(value):
    """Return None if value, any value, is a rule, otherwise what is wrong first."""
    if not isinstance(value, tuple) or not 1 <= len(value) <= MAX_PLACES:
        return "form"
    for place, item in enumerate(value):
        if not is_within(item, 0, place):
            return ("place", place)
    return None


def front(n):
    """Return the rule of n places that leads every letter to the place 0."""
    return (0,) * n


def rule_text(rule):
    """Return the text of a rule: its items in decimal, a blank between two."""
    return " ".join([str(item) for item in rule])


def read_rule(value):
    """Return the rule of which value, any value, is the text."""
    place = misplaced(value, FIGURES, 2)
    if place is not None:
        raise BadText(place)
    rule = tuple([int(word) for word in value.split(" ")])
    error = rule_error(rule)
    if error is not None:
        raise BadRule(error)
    return rule
