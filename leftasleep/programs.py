"""Programs: the deeds that each hand does one behind another, and their sorts."""

from leftasleep.bounds import MAX_DEEDS, MAX_HANDS, MAX_WANT
from leftasleep.integers import is_within

DEED_WORDS = ("put", "take", "wish")

# A sort stands behind those that ask more than it does.
SORTS = (("like", "staying"), ("like", "leaving"), ("any", "staying"), ("any", "leaving"))


def is_deed(value):
    """Whether value, whatever it is, is a deed."""
    if not isinstance(value, tuple) or len(value) != 2:
        return False
    return value[0] in DEED_WORDS and is_within(value[1], 1, MAX_WANT)


def programs_error(value):
    """What is wrong with value as programs, None if it is such."""
    if not isinstance(value, tuple) or not 1 <= len(value) <= MAX_HANDS:
        return "form"
    for hand, program in enumerate(value):
        if not isinstance(program, tuple) or len(program) > MAX_DEEDS:
            return ("program", hand)
    for hand, program in enumerate(value):
        for place, deed in enumerate(program):
            if not is_deed(deed):
                return ("deed", hand, place)
    return None


def sorts():
    """The four sorts of programs, in order."""
    return SORTS


def is_of(programs, sort):
    """Whether programs are of sort."""
    wants, stays = sort
    deeds = [deed for program in programs for deed in program]
    if wants == "like" and any([word != "put" and number != 1 for word, number in deeds]):
        return False
    return stays == "leaving" or all([word != "wish" for word, _ in deeds])


def sort_of(programs):
    """The first one of the sorts of which programs are."""
    return [sort for sort in SORTS if is_of(programs, sort)][0]
