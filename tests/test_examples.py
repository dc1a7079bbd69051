import pathlib
import re
import unittest

from leftasleep import errors

EXAMPLES = pathlib.Path(__file__).resolve().parent / "examples.txt"


def examples():
    """The document's examples in order: the number of the promise, what is said, and the line that comes back."""
    point, found = None, []
    for line in EXAMPLES.read_text().splitlines():
        if re.fullmatch(r"\[[A-Z][0-9]+\]", line):
            point = line
        elif line.startswith(">>> "):
            found.append([point, line[4:], None])
        else:
            found[-1][2] = line
    return found


def answer(said, names):
    """What comes back, as the document writes it, and the names of errors with what they keep."""
    try:
        return repr(eval(said, names))
    except errors.SleepError as error:
        return "raises {}({})".format(type(error).__name__, ", ".join(repr(field) for field in vars(error).values()))


class ExamplesTest(unittest.TestCase):
    """The examples of the document, one behind another, as names that were set once stay set."""

    def test_what_they_return_and_raise(self):
        names = {}
        for point, said, told in examples():
            with self.subTest(point=point, said=said):
                if told is None:
                    exec(said, names)
                else:
                    self.assertEqual(answer(said, names), told)

    def test_there_are_some_for_each_promise_that_has_them(self):
        self.assertEqual(sorted({point for point, _, _ in examples()}),
                         ["[A10]", "[A5]", "[A6]", "[A7]", "[A8]", "[A9]", "[B2]", "[B5]", "[C2]", "[C3]",
                          "[C4]", "[C5]", "[D2]", "[D3]", "[E2]", "[E3]", "[F2]", "[F3]", "[G2]", "[G3]",
                          "[H2]", "[H3]", "[I2]", "[I3]", "[J1]"])


if __name__ == "__main__":
    unittest.main()
