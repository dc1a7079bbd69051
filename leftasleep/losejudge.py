"""What is wrong with a value as a loss: programs, a run of them and a round behind it that do harm."""

from leftasleep.bounds import MAX_MOVES
from leftasleep.errors import BadRun
from leftasleep.programs import is_of, programs_error
from leftasleep.runs import harm, standings_along


def _is_formed(value):
    """Whether value, whatever it is, is built as a loss of some sort."""
    if not isinstance(value, tuple) or len(value) != 3 or programs_error(value[0]) is not None:
        return False
    _, run, turn = value
    if not isinstance(run, tuple) or not isinstance(turn, tuple):
        return False
    return len(run) + len(turn) <= MAX_MOVES


def losing_error(book, sort, value):
    """What is wrong with value as a loss for book and sort, None if it is one."""
    if not _is_formed(value):
        return "form"
    programs, run, turn = value
    if not is_of(programs, sort):
        return "sort"
    try:
        along = standings_along(book, programs, run + turn)
    except BadRun as wrong:
        spot, error = wrong.error
        return ("run", spot, error)
    if turn == ():
        return "harmless" if harm(along[-1]) is None else None
    return None if along[-1] == along[len(run)] else "round"
