"""What counts as an integer in this package."""


def is_number(value):
    """Return whether value, any value, is an integer."""
    # bool is a kind of int to Python, but True is not 1 here.
    return isinstance(value, int) and not isinstance(value, bool)


def is_within(value, least, most):
    """Return whether value, any value, is an integer from least to most."""
    return is_number(value) and least <= value <= most
