"""A second way of going through weavings: all standings that come, each with those that are one move behind it."""

from leftasleep.moving import moved, moves
from leftasleep.runs import harm
from leftasleep.standings import start


def woven(book, programs):
    """All standings that come, each with those that are one move behind it."""
    begun = start(programs)
    behind, left = {}, [begun]
    while left:
        standing = left.pop()
        if standing not in behind:
            behind[standing] = [moved(book, standing, move) for move in moves(book, standing)]
            left.extend(behind[standing])
    return behind


def has_round(behind):
    """Whether moves lead from some standing back to it: whether some are left when those that come first are taken."""
    ahead = dict.fromkeys(behind, 0)
    for standing in behind:
        for other in behind[standing]:
            ahead[other] += 1
    free, many = [standing for standing in behind if ahead[standing] == 0], 0
    while free:
        many += 1
        for other in behind[free.pop()]:
            ahead[other] -= 1
            if ahead[other] == 0:
                free.append(other)
    return many < len(behind)


def does_harm(book, programs):
    behind = woven(book, programs)
    return any(harm(standing) is not None for standing in behind) or has_round(behind)


def walked(book, programs, numbers, most):
    """The moves of a run, chosen by a fixed row of numbers, each with the standings ahead of it and behind it."""
    standing, steps = start(programs), []
    while len(steps) < most and moves(book, standing):
        move = numbers.one_of(moves(book, standing))
        behind = moved(book, standing, move)
        steps.append((standing, move, behind))
        standing = behind
    return steps
