"""Four books that are known by names of their own."""


def notify_one():
    """One is called for each put, and calls on if tokens are left."""
    return ("ahead", "kept", "first", "one", "tries", "back", "left", "passes", "free", "first")


def notify_all():
    """All who wait are called for each put."""
    return ("ahead", "kept", "first", "all", "tries", "back", "never", "drops", "free", "first")


def hand_off():
    """Tokens are given to those who are called, to whomever they are enough for."""
    return ("ahead", "kept", "first", "each", "given", "back", "left", "passes", "free", "any")


def careless():
    """Nothing is looked at twice, and nothing kept."""
    return ("behind", "lost", "last", "one", "takes", "back", "never", "drops", "free", "first")
