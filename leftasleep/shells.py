"""Shells: halls that are led by lines of text, and answer each of them."""

from leftasleep.books import book_of
from leftasleep.booktexts import book_text
from leftasleep.bounds import MAX_BOOKS
from leftasleep.errors import BadMove, NothingToUndo, Refused, TooMany, TooManyEdits
from leftasleep.good import lacks
from leftasleep.halllogs import make_edit, read_plain
from leftasleep.halls import Hall
from leftasleep.knownbooks import careless, hand_off, notify_all, notify_one
from leftasleep.moving import MOVE_WORDS
from leftasleep.names import is_name
from leftasleep.programs import sorts
from leftasleep.standings import standing_text


def _edits_text(hall):
    return f"{len(hall.log())} edits"


def _undone(hall):
    hall.undo()
    return _edits_text(hall)


def _told_show(hall):
    return standing_text(hall.standing())


def _told_names(hall):
    return " ".join(hall.names()) or "-"


def _told_can(hall):
    return "; ".join([" ".join(move) for move in hall.can()]) or "-"


def _told_trouble(hall):
    told = hall.trouble()
    if told is None:
        return "none"
    if told == "overdrawn":
        return told
    word, names = told
    return " ".join((word,) + names)


def _told_book(hall):
    return book_text(hall.book())


def _lacks_text(book, sort):
    want, stay = sort
    told = " ".join(lacks(book, sort)) or "nothing"
    return f"{want} {stay}: {told}"


def _told_lacks(hall):
    return "; ".join([_lacks_text(hall.book(), sort) for sort in sorts()])


# The lines of one word that ask for something else than an edit.
TOLD = {
    "undo": _undone,
    "show": _told_show,
    "names": _told_names,
    "can": _told_can,
    "trouble": _told_trouble,
    "book": _told_book,
    "lacks": _told_lacks,
}


def _read_book(words):
    """The book that is told by the words behind "hall", None if they tell none."""
    if len(words) != 1:
        return None
    known = {"one": notify_one(), "all": notify_all(), "off": hand_off(), "careless": careless()}
    if words[0] in known:
        return known[words[0]]
    numbers = [str(number) for number in range(MAX_BOOKS)]
    return book_of(numbers.index(words[0])) if words[0] in numbers else None


def _read_move(words):
    """The edit of a move that is told by its word and names, None if they tell none."""
    word, names = words[0], words[1:]
    if names == [] or not all([is_name(name) for name in names]):
        return None
    if word != "call" and len(names) > 1:
        return None
    return ("go", (names[0], word) + tuple(names[1:]))


def _answer(hall, words):
    """The answer of the hall to a line of these words; what the hall refuses raises an error."""
    if len(words) == 1 and words[0] in TOLD:
        told = TOLD[words[0]]
        return told(hall)
    edit = _read_move(words) if words[0] in MOVE_WORDS else read_plain(words)
    if edit is None:
        return "what?"
    result = make_edit(hall, edit)
    return f"{len(result)} moves" if edit == ("rest",) else _edits_text(hall)


def _answer_or_no(hall, words):
    """The answer of the hall to a line of these words, also where the hall refuses."""
    try:
        return _answer(hall, words)
    except Refused as refused:
        return f"no: {refused.word}"
    except BadMove as bad:
        return f"no: {bad.error}"
    except TooMany:
        return "no: many"
    except TooManyEdits:
        return "no: full"
    except NothingToUndo:
        return "no: nothing"


class Shell:
    """Keeps a hall, or none at first, and answers lines."""

    def __init__(self):
        self._hall = None

    def say(self, line):
        """The answer to line, which may be any value."""
        # What is no string is as a line that is none of those that are known.
        words = line.split(" ") if isinstance(line, str) else [""]
        if words[0] == "hall" and len(words) > 1:
            return self._begin(words[1:])
        if self._hall is None:
            return "no hall"
        return _answer_or_no(self._hall, words)

    def _begin(self, words):
        book = _read_book(words)
        if book is None:
            return "what?"
        self._hall = Hall(book)
        return _edits_text(self._hall)
