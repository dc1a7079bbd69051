"""Names of hands."""

from leftasleep.bounds import MAX_NAME

LETTERS = "abcdefghijklmnopqrstuvwxyz"


def is_name(value):
    """Whether value, whatever it is, is a name."""
    if not isinstance(value, str) or not 1 <= len(value) <= MAX_NAME:
        return False
    return all([sign in LETTERS for sign in value])
