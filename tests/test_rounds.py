import itertools
import unittest

from leftasleep.moving import moves
from samples import BOOKS, Row, books_with, read_standing


def told_rounds(book, standing, hand):
    """The rounds of calls that [B4] tells, found by going through all rows of unlike hands."""
    many, woken, order = book[3], book[4], book[9]
    tokens, row, states = standing
    left, phase, _ = states[hand]
    most = 1
    if phase == "calling" and many != "one":
        most = left[0][1] if many == "each" else len(row)
    wants = [state[0][0][1] if state[0] else 0 for state in states]

    def can_be_given(called):
        return all(sum(wants[one] for one in called[:end + 1]) <= tokens for end in range(len(called)))

    rows = [called for length in range(len(row) + 1) for called in itertools.permutations(row, length)]
    if order == "first":
        heads = [row[:length] for length in range(min(most, len(row)) + 1)]
        if woken == "given":
            heads = [called for called in heads if can_be_given(called)]
        return [heads[-1]]
    if woken == "given":
        whole = [called for called in rows if len(called) <= most and can_be_given(called)]
        return [called for called in whole if len(called) == most or not any(
            can_be_given(called + (other,)) for other in row if other not in called)]
    return [called for called in rows if len(called) == min(most, len(row)) and list(called) == sorted(called)]


def some_standings(count):
    """Standings with hands on the row, and one that is about to call, by a fixed row of numbers."""
    numbers = Row(count)
    found = []
    for _ in range(count):
        others = numbers.below(5)
        states = [(((numbers.one_of(("take", "wish")), 1 + numbers.below(4)),), "asleep", "no") for _ in range(others)]
        deed, phase = numbers.one_of(((("put", 1), "calling"), (("put", 2), "calling"), (("put", 3), "calling"),
                                      (("put", 4), "calling"), (("take", 1), "passing"), (("wish", 2), "yielding")))
        place = numbers.below(others + 1)
        states.insert(place, ((deed,), phase, "no"))
        hands = [hand for hand in range(others + 1) if hand != place]
        row = []
        while hands and numbers.below(8):
            row.append(hands.pop(numbers.below(len(hands))))
        for hand in hands:
            states[hand] = (states[hand][0], "late", "no")
        found.append(((numbers.below(8), tuple(row), tuple(states)), place))
    return found


class RoundsTest(unittest.TestCase):
    """[B4]: which rounds of calls there are."""

    def rounds(self, words, text, hand):
        """What the hand can call there; the same by all books that have these words."""
        standing = read_standing(text)
        found = {tuple(move[2:] for move in moves(book, standing) if move[0] == hand) for book in books_with(words)}
        self.assertEqual(len(found), 1)
        return found.pop()

    def test_as_told_in_many_standings(self):
        numbers = Row(4)
        for standing, hand in some_standings(600):
            for _ in range(20):
                book = numbers.one_of(BOOKS)
                made = [move for move in moves(book, standing) if move[0] == hand]
                told = [(hand, "call") + called for called in told_rounds(book, standing, hand)]
                self.assertEqual(made, sorted(told), (book, standing))

    CALLED = "woken tries|takes"
    ROW = "9 tokens; row 3 0 2; 0 asleep: take 1; 1 calling: put {}; 2 noted: wish 1; 3 lying: take 1"

    def test_the_first_one(self):
        for woken in (self.CALLED, "woken given"):
            for number in (1, 2, 3, 4):
                told = self.rounds(woken + ", order first, many one", self.ROW.format(number), 1)
                self.assertEqual(told, ((3,),))

    def test_the_first_ones_for_each_token(self):
        for woken in (self.CALLED, "woken given"):
            for number, called in ((1, (3,)), (2, (3, 0)), (3, (3, 0, 2)), (4, (3, 0, 2))):
                told = self.rounds(woken + ", order first, many each", self.ROW.format(number), 1)
                self.assertEqual(told, (called,))

    def test_all_in_the_order_of_the_row(self):
        for woken in (self.CALLED, "woken given"):
            for number in (1, 2, 3, 4):
                told = self.rounds(woken + ", order first, many all", self.ROW.format(number), 1)
                self.assertEqual(told, ((3, 0, 2),))

    def test_any_one(self):
        for woken in (self.CALLED, "woken given"):
            for number in (1, 2, 3, 4):
                told = self.rounds(woken + ", order any, many one", self.ROW.format(number), 1)
                self.assertEqual(told, ((0,), (2,), (3,)))

    def test_any_ones_are_told_ascending(self):
        words = self.CALLED + ", order any, many each"
        for number, called in ((1, ((0,), (2,), (3,))), (2, ((0, 2), (0, 3), (2, 3))), (3, ((0, 2, 3),)),
                               (4, ((0, 2, 3),))):
            self.assertEqual(self.rounds(words, self.ROW.format(number), 1), called)
            self.assertEqual(self.rounds(self.CALLED + ", order any, many all", self.ROW.format(number), 1),
                             ((0, 2, 3),))

    def test_any_ones_are_given_in_every_order(self):
        pairs = ((0, 2), (0, 3), (2, 0), (2, 3), (3, 0), (3, 2))
        whole = tuple(itertools.permutations((0, 2, 3)))
        for number, called in ((1, ((0,), (2,), (3,))), (2, pairs), (3, whole), (4, whole)):
            self.assertEqual(self.rounds("woken given, order any, many each", self.ROW.format(number), 1), called)
            self.assertEqual(self.rounds("woken given, order any, many all", self.ROW.format(number), 1), whole)

    WANTS = "{} tokens; row 1 0 2; 0 asleep: take 1; 1 asleep: take 3; 2 asleep: wish 2; 3 calling: put 4"

    def test_the_first_that_wants_more_ends_the_round(self):
        for many in ("each", "all"):
            for tokens, called in ((0, ()), (1, ()), (2, ()), (3, (1,)), (4, (1, 0)), (5, (1, 0)), (6, (1, 0, 2))):
                told = self.rounds("woken given, order first, many " + many, self.WANTS.format(tokens), 3)
                self.assertEqual(told, (called,))

    def test_who_wants_more_can_still_be_called(self):
        for tokens in (0, 1, 9):
            for many, called in (("one", (1,)), ("each", (1, 0, 2)), ("all", (1, 0, 2))):
                told = self.rounds(self.CALLED + ", order first, many " + many, self.WANTS.format(tokens), 3)
                self.assertEqual(told, (called,))

    def test_any_are_given_till_nobody_can_be(self):
        for many in ("each", "all"):
            for tokens, called in ((0, ((),)), (1, ((0,),)), (2, ((0,), (2,))), (3, ((0, 2), (1,), (2, 0))),
                                   (4, ((0, 1), (0, 2), (1, 0), (2, 0)))):
                told = self.rounds("woken given, order any, many " + many, self.WANTS.format(tokens), 3)
                self.assertEqual(told, called)
        for tokens, called in ((0, ((),)), (1, ((0,),)), (2, ((0,), (2,))), (3, ((0,), (1,), (2,)))):
            told = self.rounds("woken given, order any, many one", self.WANTS.format(tokens), 3)
            self.assertEqual(told, called)

    def test_who_passes_or_yields_calls_one(self):
        for phase, deed in (("passing", "take 4"), ("passing", "wish 4"), ("yielding", "take 4")):
            text = "9 tokens; row 2 0; 0 asleep: take 1; 1 " + phase + ": " + deed + "; 2 asleep: take 1"
            for woken in (self.CALLED, "woken given"):
                self.assertEqual(self.rounds(woken + ", order first", text, 1), ((2,),))
                self.assertEqual(self.rounds(woken + ", order any", text, 1), ((0,), (2,)))

    def test_who_passes_gives_to_whom_it_is_enough(self):
        text = "{} tokens; row 2 0; 0 asleep: take 1; 1 passing: take 4; 2 asleep: take 2"
        for tokens, first, every in ((0, (), ((),)), (1, (), ((0,),)), (2, (2,), ((0,), (2,)))):
            self.assertEqual(self.rounds("woken given, order first", text.format(tokens), 1), (first,))
            self.assertEqual(self.rounds("woken given, order any", text.format(tokens), 1), every)

    def test_nobody_is_on_the_row(self):
        for phase, deed in (("calling", "put 4"), ("passing", "take 1"), ("yielding", "take 1")):
            for tokens in (0, 4):
                text = "{} tokens; row; 0 {}: {}; 1 late: take 1".format(tokens, phase, deed)
                self.assertEqual(self.rounds("", text, 0), ((),))

    def test_two_who_call(self):
        text = "2 tokens; row 1; 0 calling: put 1; 1 asleep: take 1; 2 calling: put 1"
        for hand in (0, 2):
            self.assertEqual(self.rounds("", text, hand), ((1,),))


if __name__ == "__main__":
    unittest.main()
