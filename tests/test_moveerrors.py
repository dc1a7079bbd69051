import copy
import itertools
import unittest

from leftasleep.errors import BadMove
from leftasleep.moving import move_error, moved, moves
from samples import BOOKS, books_with, read_standing
from values import nested, odd_values

# Three hands: one may go on or away, one is asleep, one is about to call both.
WAITING = read_standing("2 tokens; row 0 1; 0 noted: wish 1; 1 asleep: take 1; 2 calling: put 2")
PLAIN = books_with("note ahead, call kept, put first, many each, woken tries, fails back, pass left, quits passes, "
                   "comers free, order first")[0]

# What is built as no move of three hands, whatever the book.
NO_MOVES = (
    None, True, False, 0, 1, "on", "0 on", (), (0,), ("on",), ("on", 0), (0, 0), [0, "on"], [], {0: "on"}, {},
    (0, "on", 1), (0, "on", None), (0, "on", ()), (0, "away", 1), (0, "away", 0), ((0, "on"),), [(0, "on")],
    (0, ["on"]), (0, ("on",)), (0, None), (0, True), (0, "On"), (0, "on "), (0, ""), (0, "sleep"), (0, "calls"),
    (0, "call ", 1), (0, {"on": 1}), (3, "on"), (-1, "on"), (5, "on"), (10 ** 399, "on"), (True, "on"),
    (False, "on"), (None, "on"), ("0", "on"), ((0,), "on"), ([0], "on"), ({0: 0}, "on"), (3, "call"),
    (-1, "call", 0), (True, "call", 0), (False, "call", 1), (2, "call", 3), (2, "call", -1), (2, "call", 0, 3),
    (2, "call", True), (2, "call", False), (2, "call", 0, True), (2, "call", False, 1), (2, "call", None),
    (2, "call", "0"), (2, "call", (0,)), (2, "call", [0]), (2, "call", (0, 1)), (2, "call", ()), (2, "call", {}),
    (2, "call", 0, 0), (2, "call", 1, 0, 1), (2, "call", 2, 2), (2, "call", 0, 1, 2, 0), (2, "call", 10 ** 399),
    [2, "call", 0, 1], (0, "on", "on"), ("call", 2, 0, 1), (2, 0, "call"), (0, "on") * 2,
    (2, "call") + (0,) * 4000, (2, "call") + tuple(range(4000)), (0, "on") + (None,) * 4000,
)


class MoveErrorTest(unittest.TestCase):
    """[B5]: move_error and what moved refuses."""

    def test_what_is_no_move(self):
        for book in BOOKS[::97]:
            for value in NO_MOVES:
                self.assertEqual(move_error(book, WAITING, value), "form", value)
                with self.assertRaises(BadMove) as held:
                    moved(book, WAITING, value)
                self.assertEqual(held.exception.error, "form")

    def test_what_can_be_made_and_what_is_closed(self):
        calls = [(hand, "call") + called for hand in range(3) for length in range(4)
                 for called in itertools.permutations(range(3), length)]
        built = [(hand, word) for hand in range(3) for word in ("on", "away")] + calls
        for book in BOOKS[::13]:
            made = moves(book, WAITING)
            self.assertLessEqual(set(made), set(built))
            for value in built:
                self.assertEqual(move_error(book, WAITING, value), None if value in made else "closed")

    def test_moves_that_are_closed_are_refused(self):
        closed = ((0, "call"), (0, "call", 1), (1, "on"), (1, "away"), (1, "call", 1), (2, "on"), (2, "away"),
                  (2, "call"), (2, "call", 0), (2, "call", 1), (2, "call", 1, 0), (2, "call", 2), (0, "call", 0),
                  (2, "call", 0, 1, 2))
        for value in closed:
            self.assertEqual(move_error(PLAIN, WAITING, value), "closed", value)
            with self.assertRaises(BadMove) as held:
                moved(PLAIN, WAITING, value)
            self.assertEqual(held.exception.error, "closed")
        self.assertIsNone(move_error(PLAIN, WAITING, (2, "call", 0, 1)))

    def test_the_first_hand_may_be_among_those_that_are_called(self):
        for hand in range(3):
            self.assertEqual(move_error(PLAIN, WAITING, (hand, "call", hand)), "closed")

    def test_bools_are_no_hands(self):
        standing = read_standing("0 tokens; row; 0 free: put 1; 1 free: put 1")
        for hand, value in ((0, False), (1, True)):
            self.assertIsNone(move_error(PLAIN, standing, (hand, "on")))
            self.assertEqual(move_error(PLAIN, standing, (value, "on")), "form")
        calling = read_standing("1 tokens; row 0; 0 asleep: take 1; 1 calling: put 1")
        self.assertIsNone(move_error(PLAIN, calling, (1, "call", 0)))
        self.assertEqual(move_error(PLAIN, calling, (1, "call", False)), "form")
        self.assertEqual(move_error(PLAIN, calling, (True, "call", 0)), "form")

    def test_values_of_all_kinds(self):
        for value in odd_values() + [WAITING, PLAIN, moves(PLAIN, WAITING), nested(20, (0, "on")),
                                     nested(40, (0, "on"))]:
            for made in (value, (value, "on"), (0, value), (0, "on", value), (2, "call", value), (value,) * 2):
                before = copy.deepcopy(made)
                self.assertEqual(move_error(PLAIN, WAITING, made), "form")
                self.assertRaises(BadMove, moved, PLAIN, WAITING, made)
                self.assertEqual(made, before)

    def test_a_standing_without_hands(self):
        for book in BOOKS[::97]:
            for value in NO_MOVES + ((0, "on"), (0, "call"), (0, "away")):
                self.assertEqual(move_error(book, (0, (), ()), value), "form")
                self.assertRaises(BadMove, moved, book, (0, (), ()), value)

    def test_hands_hang_on_the_standing(self):
        for many in range(1, 6):
            standing = (0, (), (((("put", 1),), "free", "no"),) * many)
            for hand in range(6):
                self.assertEqual(move_error(PLAIN, standing, (hand, "on")), None if hand < many else "form")
                self.assertEqual(move_error(PLAIN, standing, (0, "call", hand)), "closed" if hand < many else "form")

    def test_nothing_is_changed(self):
        before = copy.deepcopy(WAITING)
        for move in moves(PLAIN, WAITING):
            self.assertEqual(moved(PLAIN, WAITING, move), moved(PLAIN, WAITING, copy.deepcopy(move)))
            self.assertEqual(WAITING, before)


if __name__ == "__main__":
    unittest.main()
