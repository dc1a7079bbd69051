"""Weavings: all standings that come of programs, in whatever order hands move, and the harm among them."""

from leftasleep.bounds import MAX_COME
from leftasleep.errors import TooMany
from leftasleep.moving import made, moves
from leftasleep.runs import harm, rests
from leftasleep.standings import start


def _woven(book, programs):
    """The standings that come, nearest first, and for each the pairs of a move and the number of the one behind it."""
    come = [start(programs)]
    numbers = {come[0]: 0}
    ways = []
    while len(ways) < len(come):
        here = come[len(ways)]
        pairs = []
        for move in moves(book, here):
            behind = made(book, here, move)
            if behind not in numbers:
                numbers[behind] = len(come)
                come.append(behind)
            pairs.append((move, numbers[behind]))
        ways.append(pairs)
        if len(come) > MAX_COME:
            raise TooMany(MAX_COME)
    return come, ways


def many_come(book, programs):
    """How many standings come."""
    come, _ = _woven(book, programs)
    return len(come)


def _lasting(ways):
    """For each standing whether moves can be made from it on for ever."""
    left = [len(pairs) for pairs in ways]
    ahead = [[] for _ in ways]
    for number, pairs in enumerate(ways):
        for _, behind in pairs:
            ahead[behind].append(number)
    ended = [number for number, many in enumerate(left) if many == 0]
    # A way to a standing from which all rows end leads to an end, too.
    while ended != []:
        last = ended.pop()
        for number in ahead[last]:
            left[number] -= 1
            if left[number] == 0:
                ended.append(number)
    return [many > 0 for many in left]


def harms(book, programs):
    """Whether tokens come below 0, whether somebody is left asleep at rest, and whether there is a round."""
    come, ways = _woven(book, programs)
    found = [harm(standing) for standing in come]
    left_asleep = [told is not None and told != "overdrawn" for told in found]
    return "overdrawn" in found, any(left_asleep), any(_lasting(ways))


def _end(standing):
    tokens, _, states = standing
    return tokens, len([phase for _, phase, _ in states if phase == "asleep"])


def ends(book, programs):
    """The pairs of tokens and how many hands are asleep, of all standings that come and rest, ascending."""
    come, _ = _woven(book, programs)
    return tuple(sorted({_end(standing) for standing in come if rests(standing)}))


def _way_to(ways, number):
    """As few moves as can be from the beginning to the standing of this number."""
    came = {}
    for ahead, pairs in enumerate(ways):
        for move, behind in pairs:
            # The nearest standings come first, so nothing is nearer than what leads there first.
            if behind not in came:
                came[behind] = (ahead, move)
    run = []
    while number > 0:
        number, move = came[number]
        run.append(move)
    return tuple(reversed(run))


def shortest_loss(book, programs):
    """As few moves as can be behind which there is harm, None if there is none."""
    come, ways = _woven(book, programs)
    for number, standing in enumerate(come):
        if harm(standing) is not None:
            return _way_to(ways, number)
    return None


def some_round(book, programs):
    """A run, and a round behind it, in neither of which a standing comes twice; None if there is no round."""
    _, ways = _woven(book, programs)
    lasting = _lasting(ways)
    if not any(lasting):
        return None
    spots = {}
    run = []
    here = 0
    while here not in spots:
        spots[here] = len(run)
        # The beginning is lasting, and whoever is lasting has a way to one that is.
        move, here = [pair for pair in ways[here] if lasting[pair[1]]][0]
        run.append(move)
    spot = spots[here]
    return tuple(run[:spot]), tuple(run[spot:])
