import copy
import itertools
import unittest

from leftasleep.errors import BadText
from leftasleep.knownbooks import hand_off, notify_all, notify_one
from leftasleep.runs import whole_run
from leftasleep.runtexts import read_run, run_text
from samples import Row, mixed_programs
from values import nested, odd_values

HANDS = range(5)
# All moves of five hands, as they are built.
MOVES = [(hand, word) for hand in HANDS for word in ("on", "away")] + [
    (hand, "call") + called for hand in HANDS for many in range(6) for called in itertools.permutations(HANDS, many)]
EARLY = ((0, "on"),) * 3 + ((1, "on"), (1, "call", 0), (0, "on"))


def some_runs(count):
    """Tuples of moves, whether they can be made or not, by a fixed row of numbers."""
    row = Row(count)
    return [tuple(row.one_of(MOVES) for _ in range(row.below(12))) for _ in range(count)]


class RunTextTest(unittest.TestCase):
    """[C5]: run_text."""

    def test_each_move(self):
        for move in MOVES:
            self.assertEqual(run_text((move,)), " ".join(str(item) for item in move))

    def test_what_parts_moves(self):
        self.assertEqual(run_text(((0, "on"), (1, "call", 2, 0), (3, "call"), (4, "away"))),
                         "0 on; 1 call 2 0; 3 call; 4 away")

    def test_no_moves(self):
        self.assertEqual(run_text(()), "")

    def test_unlike_runs_have_unlike_texts(self):
        runs = set(some_runs(2000)) | {(move,) for move in MOVES}
        self.assertEqual(len({run_text(run) for run in runs}), len(runs))

    def test_arguments_by_name(self):
        self.assertEqual(run_text(run=EARLY), "0 on; 0 on; 0 on; 1 on; 1 call 0; 0 on")
        self.assertEqual(read_run(value="0 on"), ((0, "on"),))


class ReadRunTest(unittest.TestCase):
    """[C5], [C6]: read_run."""

    def assert_bad(self, value, place):
        with self.assertRaises(BadText) as held:
            read_run(value)
        self.assertEqual(held.exception.place, place, value)
        self.assertIs(type(held.exception.place), int)

    def test_runs_are_read_back(self):
        for run in some_runs(500) + [(move,) for move in MOVES] + [tuple(MOVES[:400])]:
            self.assertEqual(read_run(run_text(run)), run)
        for book in (notify_one(), notify_all(), hand_off()):
            for programs in mixed_programs(80):
                run = whole_run(book, programs)
                self.assertEqual(read_run(run_text(run)), run)

    def test_what_is_read_is_made_of_tuples_and_integers(self):
        run = read_run("0 on; 1 call 1 0")
        self.assertEqual([type(run)] + [type(move) for move in run], [tuple] * 3)
        self.assertEqual([type(item) for move in run for item in move], [int, str, int, str, int, int])

    def test_no_moves(self):
        self.assertEqual(read_run(""), ())

    def test_parts_that_are_no_moves(self):
        wrong = ("", " ", "0", "on", "0 ", " on", "0 on ", " 0 on", "0  on", "0on", "on 0", "0 On", "0 ON", "0 sleep",
                 "0 0", "0 on 1", "0 on on", "0 away 0", "0 away ", "5 on", "9 on", "-1 on", "+0 on", "00 on", "01 on",
                 "10 on", "0. on", "0.0 on", "a on", "True on", "None on", "0 call ", "0 call  1", "0 call 1 ",
                 "0 call 5", "0 call -1", "0 call 00", "0 call 01", "0 call 1 1", "0 call 0 0", "0 call 1 2 1",
                 "0 call on", "0 call call", "0 call 1,2", "0 call 12", "call 0 1", "0 calls 1", "0 on,", "0 on,1 on",
                 "0 on;", "0 on;1 on", "0 on ;1 on", ";0 on", "0\non", "0 on\n", "\n0 on", "0 on\n1 on", "0\ton",
                 "(0, 'on')", "0 call 0 1 2 3 4 0", "1 0 call")
        for part in wrong:
            for place in (0, 1, 7):
                for behind in ([], ["4 away"], [""]):
                    if part == "" and place == 0 and not behind:
                        continue
                    self.assert_bad("; ".join(["1 call 2"] * place + [part] + behind), place)

    def test_joints_that_are_wrong(self):
        self.assert_bad("0 on; ", 1)
        self.assert_bad("; 0 on", 0)
        self.assert_bad("; ", 0)
        self.assert_bad("0 on; ; 1 on", 1)
        self.assert_bad("0 on;  1 on", 1)
        self.assert_bad("0 on ; 1 on", 0)
        self.assert_bad("0 on;1 on", 0)
        self.assert_bad("0 on, 1 on", 0)
        self.assert_bad("0 on;; 1 on", 0)

    def test_four_hundred_parts_and_more(self):
        for many in (399, 400):
            self.assertEqual(read_run("; ".join(["0 on"] * many)), ((0, "on"),) * many)
        for more in ("0 on", "", "x", "0 on; 0 on", "x; y"):
            self.assert_bad("; ".join(["0 on"] * 400 + [more]), 400)
        self.assert_bad("; ".join(["0 on"] * 401 + ["x"]), 400)
        self.assert_bad("; ".join(["0 on"] * 399 + ["x"] + ["0 on"] * 5), 399)
        self.assert_bad("; ".join(["x"] * 500), 0)
        self.assert_bad("0 on; " * 3300, 400)
        self.assert_bad("0 on; " * 400, 400)
        self.assert_bad("0 on; " * 399, 399)

    def test_the_first_wrong_part_is_told(self):
        self.assert_bad("0 on; x; y", 1)
        self.assert_bad("0 on; 0 on; 5 on; 0 call 0 0", 2)

    def test_what_is_no_string(self):
        for value in odd_values() + [EARLY, list(EARLY), ["0 on"], ("0 on",), {"0 on": 1}, b"0 on", (0, "on"),
                                     nested(20, EARLY), nested(20, "0 on")]:
            if value == "":
                continue
            before = copy.deepcopy(value)
            self.assert_bad(value, 0)
            self.assertEqual(value, before)

    def test_long_texts_of_one_sign(self):
        for sign in "a 0;,\n":
            self.assert_bad(sign * 20000, 0)
        self.assert_bad("0 call" + " 0" * 9000, 0)


if __name__ == "__main__":
    unittest.main()
