"""Books and programs to go through, told without the package and without a random source."""

import itertools

BOOK_WORDS = (
    ("ahead", "behind"),
    ("kept", "lost"),
    ("first", "last"),
    ("one", "each", "all"),
    ("tries", "takes", "given"),
    ("back", "front"),
    ("never", "left", "always"),
    ("passes", "drops"),
    ("free", "behind"),
    ("first", "any"),
)
BOOK_NAMES = ("note", "call", "put", "many", "woken", "fails", "pass", "quits", "comers", "order")
BOOKS = tuple(itertools.product(*BOOK_WORDS))
DEEDS = tuple((word, number) for word in ("put", "take", "wish") for number in (1, 2, 3, 4))


class Row:
    """A fixed row of numbers, another one for each seed."""

    def __init__(self, seed):
        self.now = seed * 7919 + 17

    def below(self, limit):
        """The next number of the row, from 0 to limit - 1."""
        self.now = (self.now * 6364136223846793005 + 1442695040888963407) % 2 ** 64
        return (self.now >> 33) % limit

    def one_of(self, items):
        return items[self.below(len(items))]


def mixed_programs(count, deeds=DEEDS, most=8):
    """count programs of 1 to 5 hands with at most so many deeds each, by a fixed row of numbers."""
    row = Row(count)
    return [tuple(tuple(row.one_of(deeds) for _ in range(row.below(most + 1))) for _ in range(1 + row.below(5)))
            for _ in range(count)]


def small_programs():
    """All programs of one and of two hands with at most one deed each."""
    each = ((),) + tuple((deed,) for deed in DEEDS)
    return [programs for many in (1, 2) for programs in itertools.product(each, repeat=many)]
