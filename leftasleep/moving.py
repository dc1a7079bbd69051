"""Moves: what each hand can do next, and what becomes of it, by a book."""

from leftasleep.books import word_of
from leftasleep.errors import BadMove
from leftasleep.integers import is_within
from leftasleep.standings import wanted

MOVE_WORDS = ("on", "away", "call")
CALLING_PHASES = ("calling", "passing", "yielding")
LEAVING_PHASES = ("noted", "lying", "asleep", "woken")


def _without(row, hand):
    return tuple([other for other in row if other != hand])


def _with_state(standing, hand, state):
    tokens, row, states = standing
    return (tokens, row, states[:hand] + (state,) + states[hand + 1:])


def _in_phase(standing, hand, phase, mark):
    left, _, _ = standing[2][hand]
    return _with_state(standing, hand, (left, phase, mark))


def _done(standing, hand):
    left, _, _ = standing[2][hand]
    return _with_state(standing, hand, (left[1:], "free", "no"))


def _served(book, standing, hand):
    """The hand has its tokens; it calls a further one first if the book says so."""
    tokens, row, _ = standing
    if word_of(book, "pass") != "never" and tokens > 0 and row != ():
        return _in_phase(standing, hand, "passing", "no")
    return _done(standing, hand)


def _waiting(book, standing, hand, row):
    """The hand was put on the row, which is row now."""
    tokens, _, states = standing
    phase = "noted" if word_of(book, "note") == "ahead" else "asleep"
    return _in_phase((tokens, row, states), hand, phase, "no")


def _gone_back(book, standing, hand):
    _, row, _ = standing
    if word_of(book, "fails") == "back":
        return _waiting(book, standing, hand, row + (hand,))
    return _waiting(book, standing, hand, (hand,) + row)


def _taken(standing, hand):
    """The hand's tokens are out of the pool, and it is off the row."""
    tokens, row, states = standing
    return (tokens - wanted(standing, hand), _without(row, hand), states)


def _on_free(book, standing, hand):
    tokens, row, states = standing
    word, number = states[hand][0][0]
    if word == "put":
        more = number if word_of(book, "put") == "first" else 0
        return _in_phase((tokens + more, row, states), hand, "calling", "no")
    if tokens >= number and (word_of(book, "comers") == "free" or row == ()):
        return _done(_taken(standing, hand), hand)
    return _in_phase(standing, hand, "late", "no")


def _on_late(book, standing, hand):
    _, row, _ = standing
    return _waiting(book, standing, hand, row + (hand,))


def _on_noted(book, standing, hand):
    tokens, row, states = standing
    _, _, mark = states[hand]
    if mark == "given":
        return _served(book, standing, hand)
    may = word_of(book, "comers") == "free" or row[:1] == (hand,) or hand not in row
    if not may or tokens < wanted(standing, hand):
        return _in_phase(standing, hand, "lying", mark)
    behind = _taken(standing, hand)
    # Who was not called has no call that it could pass on.
    return _served(book, behind, hand) if mark == "called" else _done(behind, hand)


def _on_lying(book, standing, hand):
    _, _, mark = standing[2][hand]
    wakes = mark != "no" and word_of(book, "call") == "kept"
    return _in_phase(standing, hand, "woken" if wakes else "asleep", mark)


def _on_woken(book, standing, hand):
    tokens, row, states = standing
    _, _, mark = states[hand]
    if mark == "given":
        return _served(book, standing, hand)
    if word_of(book, "woken") == "takes" or tokens >= wanted(standing, hand):
        return _served(book, _taken(standing, hand), hand)
    if word_of(book, "pass") == "always" and tokens > 0 and row != ():
        return _in_phase(standing, hand, "yielding", "no")
    return _gone_back(book, standing, hand)


def _on_storing(_, standing, hand):
    tokens, row, states = standing
    return _done((tokens + states[hand][0][0][1], row, states), hand)


ON = {
    "free": _on_free,
    "late": _on_late,
    "noted": _on_noted,
    "lying": _on_lying,
    "woken": _on_woken,
    "storing": _on_storing,
}


def _away(book, standing, hand):
    tokens, row, states = standing
    _, phase, mark = states[hand]
    back = wanted(standing, hand) if mark == "given" else 0
    row = _without(row, hand)
    behind = (tokens + back, row, states)
    was_called = phase == "woken" or mark != "no"
    if was_called and word_of(book, "quits") == "passes" and row != ():
        return _in_phase(behind, hand, "passing", "no")
    return _done(behind, hand)


def _marked(book, standing, hand):
    """The hand is called: it is off the row, and woken if it was asleep."""
    tokens, row, states = standing
    _, phase, _ = states[hand]
    phase = "woken" if phase == "asleep" else phase
    if word_of(book, "woken") == "given":
        return _in_phase(_taken(standing, hand), hand, phase, "given")
    return _in_phase((tokens, _without(row, hand), states), hand, phase, "called")


def _call(book, standing, hand, called):
    for other in called:
        standing = _marked(book, standing, other)
    _, phase, _ = standing[2][hand]
    # It goes on the row behind its calls, so who yields never calls itself.
    if phase == "yielding":
        return _gone_back(book, standing, hand)
    if phase == "calling" and word_of(book, "put") == "last":
        return _in_phase(standing, hand, "storing", "no")
    return _done(standing, hand)


def _most_called(book, standing, hand):
    """How many the hand calls, if so many are on the row and can be called."""
    _, row, states = standing
    left, phase, _ = states[hand]
    if phase != "calling" or word_of(book, "many") == "one":
        return 1
    return left[0][1] if word_of(book, "many") == "each" else len(row)


def _first_given(standing, most):
    """The hands from the first one on, at most so many, as long as tokens are enough for each."""
    tokens, row, _ = standing
    called = []
    for hand in row[:most]:
        tokens = tokens - wanted(standing, hand)
        if tokens < 0:
            break
        called.append(hand)
    return tuple(called)


def _any_given(standing, most):
    """All rows of at most so many hands that can be given what they want, and that cannot be made longer."""
    tokens, row, _ = standing
    fitting = [hand for hand in row if wanted(standing, hand) <= tokens] if most > 0 else []
    if fitting == []:
        return [()]
    found = []
    for hand in fitting:
        rest = _any_given(_taken(standing, hand), most - 1)
        found.extend([(hand,) + behind for behind in rest])
    return found


def _choices(hands, many):
    """All choices of so many of these hands, each in the order of hands."""
    found = [()]
    for hand in hands:
        found = found + [chosen + (hand,) for chosen in found]
    return [chosen for chosen in found if len(chosen) == many]


def _rounds(book, standing, hand):
    """The rounds of calls that the hand can make."""
    _, row, _ = standing
    most = min(_most_called(book, standing, hand), len(row))
    given = word_of(book, "woken") == "given"
    if word_of(book, "order") == "first":
        return [_first_given(standing, most) if given else row[:most]]
    return _any_given(standing, most) if given else _choices(sorted(row), most)


def _moves_of(book, standing, hand):
    """The moves that this hand can make."""
    left, phase, _ = standing[2][hand]
    if phase in CALLING_PHASES:
        return [(hand, "call") + called for called in _rounds(book, standing, hand)]
    found = []
    if phase in LEAVING_PHASES and left[0][0] == "wish":
        found.append((hand, "away"))
    if phase != "asleep" and left != ():
        found.append((hand, "on"))
    return found


def moves(book, standing):
    """All moves that can be made, ascending."""
    hands = range(len(standing[2]))
    return tuple(sorted([move for hand in hands for move in _moves_of(book, standing, hand)]))


def first_of(book, standing, hand):
    """The first of the hand's moves that is no "away", None if there is none."""
    found = [move for move in _moves_of(book, standing, hand) if move[1] != "away"]
    return min(found, default=None)


def first_move(book, standing):
    """The first of all moves that is no "away", None if there is none."""
    for hand in range(len(standing[2])):
        move = first_of(book, standing, hand)
        if move is not None:
            return move
    return None


def is_formed(value, many):
    """Whether value, whatever it is, is built as a move among so many hands."""
    if not isinstance(value, tuple) or len(value) < 2 or value[1] not in MOVE_WORDS:
        return False
    called = value[2:]
    if not all([is_within(hand, 0, many - 1) for hand in value[:1] + called]):
        return False
    if value[1] != "call":
        return called == ()
    return len(set(called)) == len(called)


def move_error(book, standing, value):
    """What is wrong with value as a move, None if it can be made."""
    if not is_formed(value, len(standing[2])):
        return "form"
    return None if value in _moves_of(book, standing, value[0]) else "closed"


def made(book, standing, move):
    """The standing behind a move that is known to be one that can be made."""
    hand, word = move[:2]
    if word == "call":
        return _call(book, standing, hand, move[2:])
    if word == "away":
        return _away(book, standing, hand)
    _, phase, _ = standing[2][hand]
    action = ON[phase]
    return action(book, standing, hand)


def moved(book, standing, value):
    """The standing behind the move value; BadMove if it cannot be made."""
    error = move_error(book, standing, value)
    if error is not None:
        raise BadMove(error)
    return made(book, standing, value)
