"""On the way: who waits uncalled, for whom there is enough, and who will call or take."""

from leftasleep.standings import wanted

WAY_PHASES = ("calling", "passing", "yielding", "woken")


def _is_uncalled(state):
    _, phase, mark = state
    return phase in ("lying", "asleep") and mark == "no"


def uncalled(standing):
    """The hands that lie or sleep and were not called, ascending."""
    return tuple([hand for hand, state in enumerate(standing[2]) if _is_uncalled(state)])


def fed(standing):
    """The uncalled hands that want no more than the tokens that lie there, ascending."""
    return tuple([hand for hand in uncalled(standing) if wanted(standing, hand) <= standing[0]])


def _is_on_way(state):
    _, phase, mark = state
    return phase in WAY_PHASES or (phase in ("noted", "lying") and mark != "no")


def on_way(standing):
    """The hands that will call somebody, or try to take, ascending."""
    return tuple([hand for hand, state in enumerate(standing[2]) if _is_on_way(state)])


def owed(standing):
    """How many tokens those put, or will put, who are calling."""
    return sum([left[0][1] for left, phase, _ in standing[2] if phase == "calling"])


def least_want(standing):
    """The least number that an uncalled hand wants, None if there is none."""
    return min([wanted(standing, hand) for hand in uncalled(standing)], default=None)
