"""Halls gone along by a fixed row of numbers, and what each of them shows."""

from leftasleep.errors import SleepError
from leftasleep.halls import Hall
from samples import BOOK_NAMES, BOOK_WORDS, DEEDS

NAMES = ("ann", "bob", "cy", "on", "call")


def shown(hall):
    """All that a hall shows."""
    return hall.book(), hall.names(), hall.standing(), hall.log(), hall.can(), hall.trouble()


def hall_of(book, *programs):
    """A hall with a hand for each of the programs, asked for all its deeds."""
    hall = Hall(book)
    for name, program in zip(NAMES, programs):
        hall.come(name)
        for deed in program:
            hall.ask(name, deed)
    return hall


def some_edit(hall, numbers, deeds=DEEDS, turns=True):
    """An edit, chosen by a row of numbers; not all can be made."""
    kind = numbers.below(12)
    if kind == 0:
        return ("come", numbers.one_of(NAMES))
    if kind < 4:
        return ("ask", numbers.one_of(NAMES), numbers.one_of(deeds))
    if kind == 4:
        return ("rest",)
    if kind == 5 and turns:
        place = numbers.below(10)
        return ("turn", BOOK_NAMES[place], numbers.one_of(BOOK_WORDS[place]))
    return ("go", numbers.one_of(hall.can()) if hall.can() else ("ann", "on"))


def make(hall, edit):
    """What the hall returns, or the error that it raises, for the edit."""
    try:
        return getattr(hall, edit[0])(*edit[1:])
    except SleepError as error:
        return error


def gone_along(book, numbers, most, deeds=DEEDS, turns=True):
    """A hall behind so many edits, some of which it refused."""
    hall = Hall(book)
    for name in NAMES[:1 + numbers.below(5)]:
        hall.come(name)
    for _ in range(most):
        make(hall, some_edit(hall, numbers, deeds, turns))
    return hall
