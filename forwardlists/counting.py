"""How often each number stands in a row."""


def how_often(many, items):
    """Return for each integer from 0 to many - 1, in order, how often it stands in items."""
    return tuple([items.count(number) for number in range(many)])
