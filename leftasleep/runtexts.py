"""Runs as texts, and texts read as runs."""

from leftasleep.bounds import MAX_HANDS, MAX_MOVES
from leftasleep.errors import BadText
from leftasleep.moving import is_formed


def run_text(run):
    """The text of run: its moves one behind another."""
    return "; ".join([" ".join([str(item) for item in move]) for move in run])


def _read_move(part, hands):
    """The move whose text part is, None if it is the text of none."""
    words = part.split(" ")
    # What is no hand stays as it is: it may be the word, or nothing that is right.
    move = tuple([hands.get(word, word) for word in words])
    return move if is_formed(move, MAX_HANDS) else None


def read_run(value):
    """The tuple of moves whose text value is; BadText if it is the text of none."""
    if not isinstance(value, str):
        raise BadText(0)
    hands = {str(hand): hand for hand in range(MAX_HANDS)}
    # An empty text has no moves, though split tells of one part.
    parts = value.split("; ") if value else []
    run = []
    for place, part in enumerate(parts):
        move = _read_move(part, hands)
        if move is None or place == MAX_MOVES:
            raise BadText(place)
        run.append(move)
    return tuple(run)
