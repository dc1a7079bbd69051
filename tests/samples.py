"""Books, programs and standings to go through, told without the package and without a random source."""

import itertools

BOOK_WORDS = (
    ("ahead", "behind"),
    ("kept", "lost"),
    ("first", "last"),
    ("one", "each", "all"),
    ("tries", "takes", "given"),
    ("back", "front"),
    ("never", "left", "always"),
    ("passes", "drops"),
    ("free", "behind"),
    ("first", "any"),
)
BOOK_NAMES = ("note", "call", "put", "many", "woken", "fails", "pass", "quits", "comers", "order")
BOOKS = tuple(itertools.product(*BOOK_WORDS))
DEEDS = tuple((word, number) for word in ("put", "take", "wish") for number in (1, 2, 3, 4))


class Row:
    """A fixed row of numbers, another one for each seed."""

    def __init__(self, seed):
        self.now = seed * 7919 + 17

    def below(self, limit):
        """The next number of the row, from 0 to limit - 1."""
        self.now = (self.now * 6364136223846793005 + 1442695040888963407) % 2 ** 64
        return (self.now >> 33) % limit

    def one_of(self, items):
        return items[self.below(len(items))]


def mixed_programs(count, deeds=DEEDS, most=8):
    """count programs of 1 to 5 hands with at most so many deeds each, by a fixed row of numbers."""
    row = Row(count)
    return [tuple(tuple(row.one_of(deeds) for _ in range(row.below(most + 1))) for _ in range(1 + row.below(5)))
            for _ in range(count)]


def small_programs():
    """All programs of one and of two hands with at most one deed each."""
    each = ((),) + tuple((deed,) for deed in DEEDS)
    return [programs for many in (1, 2) for programs in itertools.product(each, repeat=many)]


def books_with(words):
    """The books that have these words, told as "entry word" or "entry word|word", with ", " between two."""
    wanted = dict(part.split(" ") for part in words.split(", ")) if words else {}
    kept = [wanted[name].split("|") if name in wanted else own for name, own in zip(BOOK_NAMES, BOOK_WORDS)]
    return list(itertools.product(*kept))


def read_deeds(text):
    """The deeds that are told as "take 1, put 2"."""
    return tuple((part.split(" ")[0], int(part.split(" ")[1])) for part in text.split(", ")) if text else ()


def read_standing(text):
    """The standing whose text this is."""
    tokens, row, *hands = text.split("; ")
    states = []
    for part in hands:
        words, left = part.split(":")
        _, phase, mark = (words.split(" ") + ["no"])[:3]
        states.append((read_deeds(left.strip()), phase, mark))
    return int(tokens.split(" ")[0]), tuple(int(hand) for hand in row.split(" ")[1:]), tuple(states)


def read_move(text):
    """The move that is told as "1 call 0 2"."""
    hand, word, *called = text.split(" ")
    return (int(hand), word) + tuple(int(other) for other in called)
