"""Halls: hands that have names, come and are asked for deeds while others go on."""

from leftasleep.books import book_error, turned
from leftasleep.bounds import MAX_DEEDS, MAX_EDITS, MAX_HANDS
from leftasleep.errors import BadBook, BadMove, NothingToUndo, Refused, TooMany, TooManyEdits, Unfit
from leftasleep.moving import moved, moves
from leftasleep.names import is_name
from leftasleep.programs import is_deed
from leftasleep.runs import harm, rest_of


class Hall:
    """A book, names of hands, and a standing of them, with a log of what was done, which can be undone."""

    def __init__(self, book):
        error = book_error(book)
        if error is not None:
            raise BadBook(error)
        self._book = book
        self._names = ()
        self._standing = (0, (), ())
        self._log = ()
        # What was ahead of each edit of the log: the book, the names and the standing.
        self._past = ()

    def __eq__(self, other):
        if not isinstance(other, Hall):
            return False
        return self._book == other._book and self._names == other._names and self._standing == other._standing

    def book(self):
        """The present book."""
        return self._book

    def standing(self):
        """The present standing."""
        return self._standing

    def log(self):
        """The edits that were made and not undone, in order."""
        return self._log

    def names(self):
        """The names of the hands, in the order in which they came."""
        return self._names

    def _by_names(self, move):
        called = [self._names[hand] for hand in move[2:]]
        return (self._names[move[0]], move[1]) + tuple(called)

    def _hand_of(self, value):
        """The hand that has this name, None if nobody has it."""
        return self._names.index(value) if value in self._names else None

    def _by_hands(self, move):
        """The move by names, a tuple, with hands for names; what is no name of the hall becomes None."""
        return tuple([item if place == 1 else self._hand_of(item) for place, item in enumerate(move)])

    def can(self):
        """All moves that can be made, by names."""
        return tuple([self._by_names(move) for move in moves(self._book, self._standing)])

    def trouble(self):
        """The harm that is done, with names; None if there is none."""
        told = harm(self._standing)
        if told is None or told == "overdrawn":
            return told
        word, hands = told
        return word, tuple([self._names[hand] for hand in hands])

    def _keep(self, edit, book, names, standing):
        """Put edit behind the log, and keep what is behind it."""
        if len(self._log) >= MAX_EDITS:
            raise TooManyEdits()
        self._past = self._past + ((self._book, self._names, self._standing),)
        self._log = self._log + (edit,)
        self._book = book
        self._names = names
        self._standing = standing

    def come(self, name):
        """A further hand comes, free and without deeds."""
        if not is_name(name):
            raise Unfit()
        if name in self._names:
            raise Refused("known")
        if len(self._names) >= MAX_HANDS:
            raise TooMany(MAX_HANDS)
        tokens, row, states = self._standing
        behind = (tokens, row, states + (((), "free", "no"),))
        self._keep(("come", name), self._book, self._names + (name,), behind)

    def ask(self, name, deed):
        """The deed is put behind all that the hand has left."""
        if not is_name(name) or not is_deed(deed):
            raise Unfit()
        hand = self._hand_of(name)
        if hand is None:
            raise Refused("unknown")
        tokens, row, states = self._standing
        left, phase, mark = states[hand]
        if len(left) >= MAX_DEEDS:
            raise TooMany(MAX_DEEDS)
        states = states[:hand] + ((left + (deed,), phase, mark),) + states[hand + 1:]
        self._keep(("ask", name, deed), self._book, self._names, (tokens, row, states))

    def go(self, move):
        """Make a move by names."""
        if not isinstance(move, tuple):
            raise BadMove("form")
        behind = moved(self._book, self._standing, self._by_hands(move))
        self._keep(("go", move), self._book, self._names, behind)

    def rest(self):
        """Go on till the standing rests, or many moves were made; the moves, by names."""
        run, behind = rest_of(self._book, self._standing)
        self._keep(("rest",), self._book, self._names, behind)
        return tuple([self._by_names(move) for move in run])

    def turn(self, entry, word):
        """The entry of the book becomes word."""
        book = turned(self._book, entry, word)
        tokens, _, states = self._standing
        if tokens < 0 or not all([phase == "free" for _, phase, _ in states]):
            raise Refused("waiting")
        self._keep(("turn", entry, word), book, self._names, self._standing)

    def undo(self):
        """Take the last edit off the log, and all that it did."""
        if self._log == ():
            raise NothingToUndo()
        self._book, self._names, self._standing = self._past[-1]
        self._past = self._past[:-1]
        self._log = self._log[:-1]

    def twin(self):
        """A hall that is as this one, and goes its own way from now on."""
        other = Hall(self._book)
        other._names = self._names
        other._standing = self._standing
        other._log = self._log
        other._past = self._past
        return other
