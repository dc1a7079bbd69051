"""Books as texts, and texts read as books."""

from leftasleep.books import entries
from leftasleep.errors import BadText


def _part_text(name, word):
    return f"{name} {word}"


def book_text(book):
    """The text of book: a part for each entry, in order."""
    names = [name for name, _ in entries()]
    return ", ".join([_part_text(name, word) for name, word in zip(names, book)])


def read_book(value):
    """The book whose text value is; BadText if it is the text of none."""
    if not isinstance(value, str):
        raise BadText(0)
    parts = value.split(", ")
    found = []
    for place, (name, words) in enumerate(entries()):
        right = [_part_text(name, word) for word in words]
        # A part that is missing is the first wrong one, as all ahead of it are right.
        if place == len(parts) or parts[place] not in right:
            raise BadText(place)
        found.append(words[right.index(parts[place])])
    if len(parts) > len(found):
        raise BadText(len(found))
    return tuple(found)
