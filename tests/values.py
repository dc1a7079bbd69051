"""Values of all kinds, for what may be handed in wherever an argument may be any value."""


def nested(depth, inner):
    """inner within so many tuples, lists and dicts in turns."""
    for level in range(depth):
        inner = ((inner,), [inner], {"a": inner})[level % 3]
    return inner


def odd_values():
    """Values that are no books, no numbers of books, no names of entries and no words; new ones at each call."""
    return [
        None,
        True,
        False,
        -1,
        3456,
        -3456,
        10 ** 399,
        -(10 ** 399),
        "",
        "0",
        "Note",
        "note ",
        "a" * 20000,
        "note\nahead",
        (),
        [],
        {},
        (None,) * 10,
        (0,) * 10,
        (True,) * 10,
        ("note",) * 10,
        ([],) * 10,
        ({},) * 10,
        ["note"],
        ("note",),
        ("ahead",),
        ("note", "ahead"),
        {"note": "ahead"},
        {(1, "a"): [None, {"b": ()}], None: 1, False: 2},
        nested(20, "note"),
        nested(20, ()),
        tuple(range(4000)),
        list(range(4000)),
        {number: (number,) for number in range(1000)},
    ]
