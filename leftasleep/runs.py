"""Runs: moves made one behind another, what they lead to, and the harm that is done there."""

from leftasleep.bounds import MAX_MOVES
from leftasleep.errors import BadMove, BadRun
from leftasleep.moving import first_move, made, moved
from leftasleep.standings import start, wanted


def standings_along(book, programs, run):
    """The standings ahead of, between and behind the moves of run; BadRun if it is no run of programs by book."""
    if not isinstance(run, tuple) or len(run) > MAX_MOVES:
        raise BadRun("form")
    along = [start(programs)]
    for spot, move in enumerate(run):
        try:
            along.append(moved(book, along[-1], move))
        except BadMove as wrong:
            raise BadRun((spot, wrong.error)) from None
    return along


def led(book, programs, run):
    """The standing behind run; BadRun if it is no run of programs by book."""
    return standings_along(book, programs, run)[-1]


def run_error(book, programs, value):
    """What is wrong with value as a run of programs by book, None if it is one."""
    try:
        led(book, programs, value)
    except BadRun as wrong:
        return wrong.error
    return None


def rests(standing):
    """Whether nothing happens any more by itself."""
    return all([phase == "asleep" or (phase == "free" and left == ()) for left, phase, _ in standing[2]])


def _has_enough(standing, hand):
    tokens, _, states = standing
    _, _, mark = states[hand]
    return mark == "given" or wanted(standing, hand) <= tokens


def sleepers(standing):
    """The hands that are asleep though there is enough for them, ascending."""
    asleep = [hand for hand, (_, phase, _) in enumerate(standing[2]) if phase == "asleep"]
    return tuple([hand for hand in asleep if _has_enough(standing, hand)])


def harm(standing):
    """The harm that is done in standing, None if there is none."""
    tokens, _, _ = standing
    if tokens < 0:
        return "overdrawn"
    left_asleep = sleepers(standing) if rests(standing) else ()
    return ("asleep", left_asleep) if left_asleep else None


def rest_of(book, standing):
    """The moves of the least hand first, till standing rests or there are MAX_MOVES, and the standing behind them."""
    run = []
    while len(run) < MAX_MOVES and not rests(standing):
        move = first_move(book, standing)
        standing = made(book, standing, move)
        run.append(move)
    return tuple(run), standing


def whole_run(book, programs):
    """The run in which the least hand goes first, as far as it can, and nobody goes away."""
    run, _ = rest_of(book, start(programs))
    return run
