"""Logs of halls: their texts, texts read as logs, and the hall behind a log."""

from leftasleep.books import entries
from leftasleep.bounds import MAX_EDITS
from leftasleep.errors import BadLog, BadText, SleepError, Unfit
from leftasleep.halls import Hall
from leftasleep.moving import MOVE_WORDS
from leftasleep.names import is_name
from leftasleep.programtexts import deeds_by_text


def _edit_text(edit):
    words = []
    for item in edit:
        words.extend([str(part) for part in item] if isinstance(item, tuple) else [item])
    return " ".join(words)


def log_text(log):
    """The text of log: a line for each of its edits."""
    return "\n".join([_edit_text(edit) for edit in log])


def _read_ask(words):
    deeds = deeds_by_text()
    asked = " ".join(words[2:])
    if len(words) < 2 or not is_name(words[1]) or asked not in deeds:
        return None
    return ("ask", words[1], deeds[asked])


def _read_turn(words):
    if len(words) != 3 or words[2] not in dict(entries()).get(words[1], ()):
        return None
    return tuple(words)


def read_plain(words):
    """The edit, but for moves, that is told by these words, None if they tell none."""
    if words[0] == "come":
        return tuple(words) if len(words) == 2 and is_name(words[1]) else None
    if words[0] == "ask":
        return _read_ask(words)
    if words[0] == "turn":
        return _read_turn(words)
    return ("rest",) if words == ["rest"] else None


def _read_go(words):
    called = words[3:]
    if len(words) < 3 or words[2] not in MOVE_WORDS:
        return None
    if not all([is_name(name) for name in words[1:2] + called]):
        return None
    if len(set(called)) < len(called) or (called != [] and words[2] != "call"):
        return None
    return ("go", tuple(words[1:]))


def _read_line(line):
    """The edit whose text line is, None if it is the text of none."""
    words = line.split(" ")
    return _read_go(words) if words[0] == "go" else read_plain(words)


def read_log(value):
    """The log whose text value is; BadText if it is the text of none."""
    if not isinstance(value, str):
        raise BadText(0)
    # An empty text has no edits, though split tells of one line.
    lines = value.split("\n") if value else []
    log = []
    for place, line in enumerate(lines):
        edit = _read_line(line)
        if edit is None or place == MAX_EDITS:
            raise BadText(place)
        log.append(edit)
    return tuple(log)


def make_edit(hall, value):
    """Make the edit value in hall, and tell what the hall tells; Unfit if value, whatever it is, is no edit."""
    if not isinstance(value, tuple):
        raise Unfit()
    kind = (value[:1], len(value))
    if kind == (("come",), 2):
        return hall.come(value[1])
    if kind == (("ask",), 3):
        return hall.ask(value[1], value[2])
    if kind == (("go",), 2):
        return hall.go(value[1])
    if kind == (("turn",), 3):
        return hall.turn(value[1], value[2])
    if kind == (("rest",), 1):
        return hall.rest()
    raise Unfit()


def hall_behind(book, value):
    """The hall with this book behind the edits of value; BadLog if they are no log of it."""
    hall = Hall(book)
    if not isinstance(value, tuple) or len(value) > MAX_EDITS:
        raise BadLog(-1)
    for place, edit in enumerate(value):
        try:
            make_edit(hall, edit)
        except SleepError:
            raise BadLog(place) from None
    return hall
