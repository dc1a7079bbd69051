"""Counts: what became of the calls of a run, and who got tokens in which order."""

from leftasleep.books import word_of
from leftasleep.runs import standings_along


def _outcome(ahead, move, behind):
    """What the move was for the take or wish of its hand, None if it was nothing that is counted."""
    hand, word = move[:2]
    left, phase, mark = ahead[2][hand]
    if word == "away":
        return "gone" if mark != "no" else None
    if word == "call" or left[0][0] == "put":
        return None
    later, then, _ = behind[2][hand]
    # Who passes a call on has its tokens, though its deed stays till it has called.
    has_tokens = then == "passing" or len(later) < len(left)
    if mark != "no":
        if has_tokens:
            return "filled"
        return "failed" if phase == "woken" else None
    if not has_tokens:
        return None
    return "first" if phase == "free" else "last"


def _outcomes(along, run):
    return [_outcome(ahead, move, behind) for ahead, move, behind in zip(along, run, along[1:])]


def tally(book, programs, run):
    """How many were called, failed, filled and gone, first tries, those over others' heads, and last tries."""
    along = standings_along(book, programs, run)
    outcomes = _outcomes(along, run)
    called = sum([len(move[2:]) for move in run])
    failed, filled, gone = outcomes.count("failed"), outcomes.count("filled"), outcomes.count("gone")
    rows = [row for (_, row, _), outcome in zip(along, outcomes) if outcome == "first"]
    over = len([row for row in rows if row != ()])
    return called, failed, filled, gone, len(rows), over, outcomes.count("last")


def served(book, programs, run):
    """The hands in the order in which they got their tokens."""
    along = standings_along(book, programs, run)
    return tuple([move[0] for move, outcome in zip(run, _outcomes(along, run))
                  if outcome in ("filled", "first", "last")])


def can_fail(book):
    """Whether by book a hand of some programs can be called in vain."""
    return word_of(book, "woken") == "tries"


def can_pass_over(book):
    """Whether by book somebody who waits can be passed over by a first try."""
    return word_of(book, "comers") == "free"
