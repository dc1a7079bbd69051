import copy
import time
import unittest

from leftasleep.books import turned
from leftasleep.good import is_good
from leftasleep.knownbooks import careless, hand_off, notify_all, notify_one
from leftasleep.losejudge import losing_error
from leftasleep.losing import losing
from leftasleep.moving import move_error
from leftasleep.runs import led, run_error, whole_run
from samples import BOOKS, mixed_programs
from values import nested, odd_values

SORTS = LIKE, LIKE_LEAVING, ANY, ANY_LEAVING = (
    ("like", "staying"), ("like", "leaving"), ("any", "staying"), ("any", "leaving"))
PAIR = ((("take", 1),), (("put", 1),))
EARLY = ((0, "on"),) * 3 + ((1, "on"), (1, "call", 0), (0, "on"))
LOST = turned(notify_one(), "call", "lost")
ALWAYS = turned(notify_one(), "pass", "always")
TWOS = ((("take", 2),), (("take", 2),), (("put", 1),))
AHEAD = ((0, "on"),) * 4 + ((1, "on"),) * 4 + (
    (2, "on"), (2, "call", 0), (0, "on"), (0, "call", 1), (0, "on"), (0, "on"))
ABOUT = ((1, "on"), (1, "call", 0), (1, "on"), (1, "on"), (0, "on"), (0, "call", 1), (0, "on"), (0, "on"))


class JudgeTest(unittest.TestCase):
    """Base of the tests of losing_error."""

    def assert_told(self, value, error, book=LOST, sort=LIKE):
        before = copy.deepcopy(value)
        self.assertEqual(losing_error(book, sort, value), error, value)
        self.assertEqual(value, before)


class FormTest(JudgeTest):
    """[E3]: "form"."""

    def test_what_is_no_triple(self):
        for value in (None, (), (PAIR,), (PAIR, EARLY), (PAIR, EARLY, (), ()), [PAIR, EARLY, ()], PAIR, EARLY, "form",
                      {0: PAIR, 1: EARLY, 2: ()}, True, 3):
            self.assert_told(value, "form")

    def test_lists_in_place_of_tuples(self):
        for value in ((PAIR, list(EARLY), ()), (PAIR, EARLY, []), (list(PAIR), EARLY, ()), (PAIR, [], []),
                      ((list(PAIR[0]), PAIR[1]), EARLY, ()), (((["take", 1],), PAIR[1]), EARLY, ())):
            self.assert_told(value, "form")

    def test_programs_that_are_none(self):
        for programs in ((), ((),) * 6, (((("take", 5),)),), ((("take", 0),),), ((("take", True),),), (None,), None,
                         ((("put", 1),) * 9,), ((("give", 1),),), "take 1", (PAIR,)):
            self.assert_told((programs, EARLY, ()), "form")

    def test_what_is_no_tuple_of_moves(self):
        for wrong in odd_values():
            if not isinstance(wrong, tuple):
                self.assert_told((PAIR, wrong, ()), "form")
                self.assert_told((PAIR, EARLY, wrong), "form")

    def test_four_hundred_moves_together_and_one_more(self):
        for many in (0, 1, 200, 399, 400):
            self.assert_told((PAIR, (None,) * many, (None,) * (400 - many)), ("run", 0, "form"))
            self.assert_told((PAIR, (None,) * many, (None,) * (401 - many)), "form")
        self.assert_told((PAIR, (), (None,) * 401), "form")
        self.assert_told((PAIR, (None,) * 401, ()), "form")
        self.assert_told((PAIR, (None,) * 400, (None,) * 400), "form")

    def test_values_of_all_kinds(self):
        for value in odd_values() + [nested(20, (PAIR, EARLY, ())), nested(30, EARLY), losing(LOST, LIKE)[1]]:
            self.assert_told(value, "form")
            self.assert_told((value, EARLY, ()), "form")
            self.assert_told((PAIR, (value,), ()), ("run", 0, "form"))
            self.assert_told((PAIR, EARLY, (value,)), ("run", 6, "form"))
            self.assert_told((PAIR, ((0, value),), (value,)), ("run", 0, "form"))


class SortTest(JudgeTest):
    """[E3]: "sort"."""

    def test_each_sort(self):
        wishing, twos = ((("wish", 1),), PAIR[1]), ((("take", 2),), PAIR[1])
        both = ((("wish", 2),), PAIR[1])
        told = [[losing_error(LOST, sort, (programs, (), ())) for sort in SORTS]
                for programs in (PAIR, wishing, twos, both)]
        self.assertEqual(told, [["harmless"] * 4, ["sort", "harmless", "sort", "harmless"],
                                ["sort", "sort", "harmless", "harmless"], ["sort", "sort", "sort", "harmless"]])

    def test_how_much_is_put_plays_no_part(self):
        self.assert_told((((("take", 1),), (("put", 4),)), EARLY, ()), None)


class RunTest(JudgeTest):
    """[E3]: ("run", spot, error)."""

    def test_a_move_that_is_wrong_in_the_first_tuple(self):
        for spot in range(len(EARLY) + 1):
            for wrong, error in ((None, "form"), ([0, "on"], "form"), ((2, "on"), "form"), ((True, "on"), "form"),
                                 ((0, "on", 0), "form"), ((0, "away"), "closed"), ((1, "call", 1), "closed")):
                for behind in ((), (None,)):
                    self.assert_told((PAIR, EARLY[:spot] + (wrong,) + behind, ()), ("run", spot, error))
                    self.assert_told((PAIR, EARLY[:spot] + (wrong,) + behind, EARLY), ("run", spot, error))

    def test_a_move_that_is_wrong_in_the_second_tuple(self):
        for spot in range(len(EARLY) + 1):
            for wrong, error in ((None, "form"), ((5, "on"), "form"), ((0, "away"), "closed"), ((1, "away"), "closed")):
                for parted in range(spot + 1):
                    self.assert_told((PAIR, EARLY[:parted], EARLY[parted:spot] + (wrong, None)), ("run", spot, error))

    def test_places_are_counted_over_both(self):
        for parted in range(len(AHEAD + ABOUT) + 1):
            moves = AHEAD + ABOUT
            self.assert_told((TWOS, moves[:parted], moves[parted:] + ((2, "on"),)), ("run", 22, "closed"), ALWAYS, ANY)

    def test_a_bool_is_no_hand(self):
        self.assert_told((PAIR, ((False, "on"),), ()), ("run", 0, "form"))
        self.assert_told((PAIR, EARLY[:4] + ((1, "call", False),), ()), ("run", 4, "form"))

    def test_as_run_error_tells(self):
        for book, programs in zip(BOOKS[::35], mixed_programs(90)):
            run = whole_run(book, programs)[:60]
            for wrong in (None, (0, "away"), (0, "call"), (7, "on")):
                error = run_error(book, programs, run + (wrong,))
                if error is not None:
                    told = move_error(book, led(book, programs, run), wrong)
                    self.assertEqual(error, (len(run), told))
                    self.assert_told((programs, run, (wrong,)), ("run", len(run), told), book, ANY_LEAVING)


class RoundTest(JudgeTest):
    """[E3]: "round" and "harmless"."""

    def test_a_round_that_leads_back(self):
        self.assert_told((TWOS, AHEAD, ABOUT), None, ALWAYS, ANY)
        self.assert_told((TWOS, AHEAD, ABOUT), None, ALWAYS, ANY_LEAVING)

    def test_a_round_gone_through_several_times(self):
        for many in (2, 5, 48):
            self.assert_told((TWOS, AHEAD, ABOUT * many), None, ALWAYS, ANY)
        self.assert_told((TWOS, AHEAD + ABOUT, ABOUT * 47), None, ALWAYS, ANY)
        self.assert_told((TWOS, AHEAD, ABOUT * 49), "form", ALWAYS, ANY)

    def test_a_round_may_begin_anywhere_on_it(self):
        for turn in range(len(ABOUT)):
            self.assert_told((TWOS, AHEAD + ABOUT[:turn], ABOUT[turn:] + ABOUT[:turn]), None, ALWAYS, ANY)

    def test_a_round_that_does_not_lead_back(self):
        for many in range(1, len(ABOUT)):
            self.assert_told((TWOS, AHEAD, ABOUT[:many]), "round", ALWAYS, ANY)
            self.assert_told((TWOS, AHEAD, ABOUT + ABOUT[:many]), "round", ALWAYS, ANY)
        self.assert_told((TWOS, AHEAD[:-1], AHEAD[-1:]), "round", ALWAYS, ANY)
        self.assert_told((PAIR, EARLY[:1], EARLY[1:2]), "round")

    def test_no_round_where_the_run_does_no_harm(self):
        self.assert_told((TWOS, AHEAD, ()), "harmless", ALWAYS, ANY)
        self.assert_told((TWOS, AHEAD + ABOUT, ()), "harmless", ALWAYS, ANY)
        for many in range(len(EARLY)):
            self.assert_told((PAIR, EARLY[:many], ()), "harmless")
        self.assert_told((PAIR, EARLY, ()), "harmless", notify_one())

    def test_no_round_where_the_run_does_harm(self):
        self.assert_told((PAIR, EARLY, ()), None)
        hasty = ((0, "on"), (0, "on"), (1, "on"), (1, "call", 0), (0, "on"), (1, "on"))
        self.assert_told((PAIR, hasty[:5], ()), None, careless())
        self.assert_told((PAIR, hasty, ()), "harmless", careless())

    def test_a_round_behind_harm_has_to_lead_back_all_the_same(self):
        self.assert_told((PAIR, EARLY[:5], EARLY[5:]), "round")

    def test_no_moves_at_all(self):
        self.assert_told((PAIR, (), ()), "harmless")
        self.assert_told((((),), (), ()), "harmless")


class FirstTest(JudgeTest):
    """[E3]: where several are wrong the first one that is told comes."""

    def test_form_ahead_of_all(self):
        unlike = ((("take", 2),), PAIR[1])
        self.assert_told((unlike, list(EARLY), ()), "form")
        self.assert_told((unlike, (None,) * 401, ()), "form")
        self.assert_told((PAIR, (None,) * 401, ()), "form")
        self.assert_told((((("take", 5),),), (None,), ()), "form")

    def test_sort_ahead_of_runs(self):
        unlike = ((("take", 2),), PAIR[1])
        self.assert_told((unlike, (None,), ()), "sort")
        self.assert_told((unlike, EARLY[:1], EARLY[1:2]), "sort")
        self.assert_told((unlike, (), ()), "sort")

    def test_runs_ahead_of_rounds_and_of_harm(self):
        self.assert_told((PAIR, EARLY[:1], (EARLY[1], None)), ("run", 2, "form"))
        self.assert_told((PAIR, (None, (0, "away")), ()), ("run", 0, "form"))
        self.assert_told((PAIR, ((0, "away"), None), ()), ("run", 0, "closed"))


class GoodTest(JudgeTest):
    """[E4]: by a good book something is wrong with every value."""

    def test_losses_of_other_books(self):
        others = [losing(book, sort) for book in BOOKS[::7] for sort in SORTS]
        kinds = sorted({value for value in others if value is not None})
        for book in (notify_one(), notify_all(), hand_off()):
            for sort in SORTS:
                for value in kinds if is_good(book, sort) else ():
                    self.assertIsNotNone(losing_error(book, sort, value))

    def test_whole_runs(self):
        for book in (notify_all(), hand_off()):
            for programs in mixed_programs(200, most=3):
                self.assertEqual(losing_error(book, ANY_LEAVING, (programs, whole_run(book, programs), ())), "harmless")

    def test_arguments_by_name(self):
        self.assertIsNone(losing_error(value=(PAIR, EARLY, ()), sort=LIKE, book=LOST))

    def test_it_takes_no_long(self):
        begun = time.process_time()
        for value in ((TWOS, AHEAD, ABOUT * 48), (TWOS, (), (AHEAD + ABOUT * 48)), (TWOS, (None,) * 3000, ()),
                      (TWOS, ((0, "call") + tuple(range(3000)),), ())):
            losing_error(ALWAYS, ANY, value)
        self.assertLess(time.process_time() - begun, 1)


if __name__ == "__main__":
    unittest.main()
