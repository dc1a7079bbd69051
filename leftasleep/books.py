"""Books: one word for each of ten entries, and their numbers."""

from leftasleep.bounds import MAX_BOOKS
from leftasleep.errors import Unfit
from leftasleep.integers import is_within

# The numbers of books hang on the order of the entries and of their words.
ENTRIES = (
    ("note", ("ahead", "behind")),
    ("call", ("kept", "lost")),
    ("put", ("first", "last")),
    ("many", ("one", "each", "all")),
    ("woken", ("tries", "takes", "given")),
    ("fails", ("back", "front")),
    ("pass", ("never", "left", "always")),
    ("quits", ("passes", "drops")),
    ("comers", ("free", "behind")),
    ("order", ("first", "any")),
)


def entries():
    """The pairs of the name of an entry and its words, in order."""
    return ENTRIES


def book_error(value):
    """What is wrong with value as a book, None if it is one."""
    if not isinstance(value, tuple) or len(value) != len(ENTRIES):
        return "form"
    for word, (name, words) in zip(value, ENTRIES):
        if word not in words:
            return ("entry", name)
    return None


def _place_of(name):
    """The place of the entry of this name; Unfit if there is none."""
    for place, (entry, _) in enumerate(ENTRIES):
        if entry == name:
            return place
    raise Unfit()


def word_of(book, name):
    """The word that book has for the entry of this name."""
    return book[_place_of(name)]


def turned(book, name, word):
    """The book that has word for the entry of this name, and all else as book has it."""
    place = _place_of(name)
    _, words = ENTRIES[place]
    if word not in words:
        raise Unfit()
    return book[:place] + (word,) + book[place + 1:]


def number_of(book):
    """The number of book among all books."""
    number = 0
    for word, (_, words) in zip(book, ENTRIES):
        number = number * len(words) + words.index(word)
    return number


def book_of(value):
    """The book whose number is value; Unfit if it is the number of none."""
    if not is_within(value, 0, MAX_BOOKS - 1):
        raise Unfit()
    rest = value
    found = []
    # The last entry changes quickest, so it is what the number tells first.
    for _, words in reversed(ENTRIES):
        rest, place = divmod(rest, len(words))
        found.append(words[place])
    return tuple(reversed(found))
