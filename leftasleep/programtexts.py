"""Programs as texts, and texts read as programs."""

from leftasleep.bounds import MAX_WANT
from leftasleep.errors import BadPrograms, BadText
from leftasleep.programs import DEED_WORDS, programs_error


def deeds_text(deeds):
    """The text of a program, or of what is left of one."""
    return ", ".join([f"{word} {number}" for word, number in deeds])


def programs_text(programs):
    """The text of programs: a line for each of them."""
    return "\n".join([deeds_text(program) for program in programs])


def deeds_by_text():
    """All deeds by their texts."""
    deeds = [(word, number) for word in DEED_WORDS for number in range(1, MAX_WANT + 1)]
    return {deeds_text((deed,)): deed for deed in deeds}


def _read_line(line, deeds):
    """The tuple of deeds whose text line is, None if it is the text of none."""
    # An empty line has no deeds, though split tells of one part.
    parts = line.split(", ") if line else []
    if not all([part in deeds for part in parts]):
        return None
    return tuple([deeds[part] for part in parts])


def read_programs(value):
    """The programs whose text value is; BadText or BadPrograms if it is the text of none."""
    if not isinstance(value, str):
        raise BadText(0)
    deeds = deeds_by_text()
    programs = tuple([_read_line(line, deeds) for line in value.split("\n")])
    if None in programs:
        raise BadText(programs.index(None))
    error = programs_error(programs)
    if error is not None:
        raise BadPrograms(error)
    return programs
