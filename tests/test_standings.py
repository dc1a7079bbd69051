import copy
import unittest

from leftasleep.standings import standing_text, start
from samples import mixed_programs, small_programs

PHASES = ("free", "late", "noted", "lying", "asleep", "woken", "calling", "storing", "passing", "yielding")


class StartTest(unittest.TestCase):
    """[B1], [B2]: start."""

    def test_the_beginning_of_many_programs(self):
        for programs in small_programs() + mixed_programs(100):
            self.assertEqual(start(programs), (0, (), tuple((program, "free", "no") for program in programs)))

    def test_it_is_made_of_tuples(self):
        tokens, row, states = start(((), (("put", 1),)))
        self.assertIs(type(tokens), int)
        self.assertIs(type(row), tuple)
        self.assertIs(type(states), tuple)
        for state in states:
            self.assertIs(type(state), tuple)
            self.assertIs(type(state[0]), tuple)

    def test_nothing_is_changed(self):
        programs = ((("put", 1),), ())
        before = copy.deepcopy(programs)
        self.assertEqual(start(programs), start(programs=programs))
        self.assertEqual(programs, before)


class StandingTextTest(unittest.TestCase):
    """[B2]: standing_text."""

    def test_without_hands(self):
        self.assertEqual(standing_text((0, (), ())), "0 tokens; row")

    def test_the_number_of_tokens(self):
        for tokens in (-3, -1, 0, 1, 160):
            self.assertEqual(standing_text((tokens, (), (((), "free", "no"),))), str(tokens) + " tokens; row; 0 free:")

    def test_the_row(self):
        states = (((("take", 1),), "noted", "no"),) * 5
        behind = "".join("; " + str(hand) + " noted: take 1" for hand in range(5))
        for row in ((), (0,), (4,), (1, 0), (4, 3, 2, 1, 0), (2, 0, 3)):
            told = "".join(" " + str(hand) for hand in row)
            self.assertEqual(standing_text((2, row, states)), "2 tokens; row" + told + behind)

    def test_each_phase_and_mark(self):
        for phase in PHASES:
            for mark, told in (("no", ""), ("called", " called"), ("given", " given")):
                standing = (1, (), (((("wish", 2), ("put", 1)), phase, mark),))
                self.assertEqual(standing_text(standing), "1 tokens; row; 0 " + phase + told + ": wish 2, put 1")

    def test_what_is_left(self):
        for left, told in (((), ""), ((("put", 4),), " put 4"), ((("put", 4), ("take", 1)), " put 4, take 1"),
                           ((("wish", 3),) * 8, " " + ", ".join(["wish 3"] * 8))):
            self.assertEqual(standing_text((0, (), ((left, "free", "no"),))), "0 tokens; row; 0 free:" + told)

    def test_hands_behind_one_another(self):
        states = (((), "free", "no"), ((("wish", 1),), "woken", "called"), ((("take", 4),), "asleep", "no"))
        standing = (3, (2,), states)
        self.assertEqual(standing_text(standing=standing),
                         "3 tokens; row 2; 0 free:; 1 woken called: wish 1; 2 asleep: take 4")

    def test_more_than_nine_hands(self):
        standing = (0, (10,), ((((), "free", "no"),) * 10) + (((("take", 1),), "asleep", "no"),))
        self.assertTrue(standing_text(standing).startswith("0 tokens; row 10; 0 free:; 1 free:;"))
        self.assertTrue(standing_text(standing).endswith("; 9 free:; 10 asleep: take 1"))


if __name__ == "__main__":
    unittest.main()
