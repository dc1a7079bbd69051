"""Good books: those that are right for all programs of a sort, and what the others lack."""

from leftasleep.books import book_of, entries, turned
from leftasleep.bounds import MAX_BOOKS


def lacks(book, sort):
    """The words for what book lacks for sort, in order."""
    note, call, put, many, woken, _, passing, quits, comers, order = book
    unlike, leaving = sort[0] == "any", sort[1] == "leaving"
    tries, given = woken == "tries", woken == "given"
    told = (
        ("note", note == "behind"),
        ("call", call == "lost"),
        ("put", put == "last"),
        ("takes", woken == "takes"),
        ("comers", comers == "behind"),
        ("one", many == "one" and passing == "never"),
        ("drops", leaving and quits == "drops" and not (many == "all" and tries)),
        ("always", unlike and tries and passing == "always"),
        ("many", unlike and tries and many != "all"),
        ("first", unlike and given and order == "first"),
        ("never", unlike and leaving and given and passing == "never"),
    )
    return tuple([word for word, is_so in told if is_so])


def is_good(book, sort):
    """Whether book is good for sort."""
    return lacks(book, sort) == ()


def _good_books(sort):
    books = [book_of(number) for number in range(MAX_BOOKS)]
    return [book for book in books if is_good(book, sort)]


def many_good(sort):
    """How many books are good for sort."""
    return len(_good_books(sort))


def idle(book, sort):
    """The names of the entries whose word plays no part in what book lacks for sort."""
    told = lacks(book, sort)
    return tuple([name for name, words in entries()
                  if all([lacks(turned(book, name, word), sort) == told for word in words])])


def _turns(book, other):
    return len([word for word, wished in zip(book, other) if word != wished])


def mended(book, sort):
    """The least number of entries to change for a good book, and such a book."""
    return min([(_turns(book, other), other) for other in _good_books(sort)])
