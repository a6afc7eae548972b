"""What counts as an integer in this package."""


def is_number(value):
    """Return whether value, any value, is an integer."""
    # bool is a kind of int to Python, but True is not 1 here.
    return isinstance(value, int) and not isinstance(value, bool)


def is_within(value, least, most):
    """Return whether value, any value, is an integer from least to most."""
    return is_number(value) and least <= value <= most


def is_same(value, wanted):
    """Return whether value, any value, is wanted: an integer, or a tuple of such and of tuples likewise."""
    if not isinstance(wanted, tuple):
        return is_number(value) and value == wanted
    if not isinstance(value, tuple) or len(value) != len(wanted):
        return False
    return all([is_same(item, other) for item, other in zip(value, wanted)])
