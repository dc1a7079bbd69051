"""Standings: what lies in the pool, who waits, and what each hand is about."""

from leftasleep.programtexts import deeds_text


def start(programs):
    """The standing at the beginning of programs."""
    return (0, (), tuple([(program, "free", "no") for program in programs]))


def wanted(standing, hand):
    """The number of the first deed of the hand: what it wants, if that is a take or a wish."""
    left, _, _ = standing[2][hand]
    return left[0][1]


def _state_text(hand, state):
    left, phase, mark = state
    words = [str(hand), phase]
    if mark != "no":
        words.append(mark)
    text = " ".join(words) + ":"
    return f"{text} {deeds_text(left)}" if left else text


def standing_text(standing):
    """The text of standing: its tokens, its row, and the state of each hand."""
    tokens, row, states = standing
    hands = "".join([f" {hand}" for hand in row])
    parts = [_state_text(hand, state) for hand, state in enumerate(states)]
    return "; ".join([f"{tokens} tokens; row{hands}"] + parts)
