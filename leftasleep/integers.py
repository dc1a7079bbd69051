"""What counts as an integer."""


def is_within(value, least, most):
    """Whether value, whatever it is, is an integer from least to most."""
    # A bool is an int to Python, but no integer to this package.
    return isinstance(value, int) and not isinstance(value, bool) and least <= value <= most
