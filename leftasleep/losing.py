"""Losing runs: for each book that is not good a run, or a round, that does harm."""

from leftasleep.good import lacks
from leftasleep.moving import first_of, made
from leftasleep.runs import harm
from leftasleep.standings import start

# For the first word that a book lacks: programs, the steps of a run of them, and those of a round behind it.
# A step is a hand and what it moves on to: a phase, having nothing left to do, or going away.
LOSSES = {
    "note": (
        ((("take", 1),), (("put", 1),)),
        ((0, "late"), (1, "done"), (0, "asleep")),
        (),
    ),
    "call": (
        ((("take", 1),), (("put", 1),)),
        ((0, "lying"), (1, "done"), (0, "asleep")),
        (),
    ),
    "put": (
        ((("take", 1),), (("put", 1),)),
        ((0, "asleep"), (1, "storing"), (0, "asleep"), (1, "done")),
        (),
    ),
    "takes": (
        ((("take", 1),), (("put", 1),), (("take", 1),)),
        ((0, "asleep"), (1, "done"), (2, "done"), (0, "done")),
        (),
    ),
    "comers": (
        ((("take", 1),), (("take", 1),), (("put", 2),)),
        ((0, "late"), (1, "late"), (2, "done"), (0, "noted"), (1, "asleep"), (0, "done")),
        (),
    ),
    "one": (
        ((("take", 1),), (("take", 1),), (("put", 2),)),
        ((0, "asleep"), (1, "asleep"), (2, "done"), (0, "done")),
        (),
    ),
    "drops": (
        ((("wish", 1),), (("take", 1),), (("put", 1),)),
        ((0, "asleep"), (1, "asleep"), (2, "done"), (0, "away")),
        (),
    ),
    "always": (
        ((("take", 2),), (("take", 2),), (("put", 1),)),
        ((0, "asleep"), (1, "asleep"), (2, "done"), (0, "asleep")),
        ((1, "asleep"), (0, "asleep")),
    ),
    "many": (
        ((("take", 2),), (("take", 1),), (("put", 1),)),
        ((0, "asleep"), (1, "asleep"), (2, "done"), (0, "asleep")),
        (),
    ),
    "first": (
        ((("take", 2),), (("take", 1),), (("put", 1),)),
        ((0, "asleep"), (1, "asleep"), (2, "done")),
        (),
    ),
    "never": (
        ((("wish", 2),), (("take", 1),), (("take", 1),), (("put", 2),)),
        ((0, "asleep"), (1, "asleep"), (2, "asleep"), (3, "done"), (0, "away"), (0, "done"), (1, "done")),
        (),
    ),
}


def _has_reached(standing, hand, goal):
    left, phase, _ = standing[2][hand]
    return left == () if goal == "done" else phase == goal


def _step_moves(book, standing, hand, goal):
    """The moves by which the hand reaches goal, or does harm on the way, and the standing behind them."""
    if goal == "away":
        return ((hand, "away"),), made(book, standing, (hand, "away"))
    run = ()
    while not _has_reached(standing, hand, goal) and harm(standing) is None:
        # Among rounds of calls the first one begins with the least hand, which is the one to be called.
        move = first_of(book, standing, hand)
        run = run + (move,)
        standing = made(book, standing, move)
    return run, standing


def _steps_moves(book, standing, steps):
    """The moves of these steps one behind another, and the standing behind them."""
    run = ()
    for hand, goal in steps:
        moves, standing = _step_moves(book, standing, hand, goal)
        run = run + moves
    return run, standing


def losing(book, sort):
    """Programs of sort, a run of them and a round behind it that do harm by book; None if book is good for sort."""
    lacked = lacks(book, sort)
    if lacked == ():
        return None
    programs, ahead, about = LOSSES[lacked[0]]
    run, standing = _steps_moves(book, start(programs), ahead)
    turn, _ = _steps_moves(book, standing, about)
    return programs, run, turn
