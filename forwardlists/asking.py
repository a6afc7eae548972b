"""Asking for letters: how a rule changes the order of a list."""


def asked(rule, order, letter):
    """Return the order behind an ask for letter."""
    place = order.index(letter)
    goal = rule[place]
    return order[:goal] + (letter,) + order[goal:place] + order[place + 1:]


def run(rule, order, text):
    """Return the order behind asks for all letters of text, one behind another."""
    now = order
    for letter in text:
        now = asked(rule, now, letter)
    return now
