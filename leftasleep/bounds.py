"""How large the things that this package handles may be."""

MAX_HANDS = 5
MAX_DEEDS = 8
MAX_WANT = 4
MAX_MOVES = 400
MAX_COME = 500
MAX_EDITS = 100
MAX_NAME = 12
MAX_BOOKS = 3456
