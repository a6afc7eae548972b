"""What counts as an integer in this package."""


def is_within(value, least, most):
    """Return whether value, any value, is an integer from least to most."""
    # bool is a kind of int to Python, but True is not 1 here.
    if isinstance(value, bool) or not isinstance(value, int):
        return False
    return least <= value <= most
