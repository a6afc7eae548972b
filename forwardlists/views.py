"""Views: what one list looks like from another one, each letter called by its place there.

What an ask does hangs on the place of the letter alone: so what becomes of two lists
hangs on the view of the one from the other, whatever the letters are.
"""

from forwardlists.asking import asked


def view(one, other):
    """Return, for each letter of other, the place at which it stands in one."""
    return tuple([one.index(letter) for letter in other])


def view_behind(rule, seen, place):
    """Return the view that seen becomes by an ask for the letter at this place of the first list."""
    plain = tuple(range(len(seen)))
    return view(asked(rule, plain, place), asked(rule, seen, place))
