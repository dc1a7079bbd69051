import copy
import time
import unittest

from leftasleep.errors import BadRun
from leftasleep.knownbooks import careless, hand_off, notify_all, notify_one
from leftasleep.moving import moved, moves
from leftasleep.runs import harm, led, rests, run_error, sleepers, whole_run
from leftasleep.standings import start
from samples import BOOKS, Row, books_with, mixed_programs, read_deeds, read_standing
from values import nested, odd_values

PAIR = ((("take", 1),), (("put", 1),))
EARLY = ((0, "on"),) * 3 + ((1, "on"), (1, "call", 0), (0, "on"))
KNOWN = (notify_one(), notify_all(), hand_off(), careless())
# By these books and programs two hands wake one another for ever.
ENDLESS = books_with("note ahead, call kept, put first, many one, woken tries, fails back, pass always, quits passes, "
                     "comers free, order first")[0]
TWOS = ((("take", 2),), (("take", 2),), (("put", 1),), (("take", 2),), (("wish", 2),))


def by_hand(book, programs, run):
    """The standing behind the run, one move behind another."""
    standing = start(programs)
    for move in run:
        standing = moved(book, standing, move)
    return standing


def some_run(book, programs, numbers, most):
    """A run of at most so many moves, chosen by a fixed row of numbers."""
    standing, run = start(programs), []
    while len(run) < most and moves(book, standing):
        run.append(numbers.one_of(moves(book, standing)))
        standing = moved(book, standing, run[-1])
    return tuple(run)


class RunErrorTest(unittest.TestCase):
    """[C1], [C2]: run_error and led."""

    def assert_bad(self, book, programs, value, error):
        before = copy.deepcopy(value)
        self.assertEqual(run_error(book, programs, value), error)
        with self.assertRaises(BadRun) as held:
            led(book, programs, value)
        self.assertEqual(held.exception.error, error)
        self.assertEqual(value, before)

    def test_runs_and_their_beginnings(self):
        numbers = Row(1)
        for book, programs in zip(BOOKS[::29], mixed_programs(120)):
            run = some_run(book, programs, numbers, 30)
            for end in range(len(run) + 1):
                self.assertIsNone(run_error(book, programs, run[:end]))
                self.assertEqual(led(book, programs, run[:end]), by_hand(book, programs, run[:end]))

    def test_no_moves(self):
        for book in KNOWN:
            for programs in mixed_programs(50):
                self.assertIsNone(run_error(book, programs, ()))
                self.assertEqual(led(book, programs, ()), start(programs))

    def test_the_first_wrong_move_is_told(self):
        for spot in range(len(EARLY) + 1):
            for wrong, error in ((None, "form"), ([0, "on"], "form"), ((2, "on"), "form"), ((True, "on"), "form"),
                                 ((0, "on", 0), "form"), ((1, "call", 0, 0), "form"), ((0, "away"), "closed"),
                                 ((1, "call"), "closed"), ((1, "call", 1), "closed")):
                if wrong == (1, "call") and spot == 4:
                    wrong = (0, "call")
                for rest in ((), (None,), EARLY):
                    self.assert_bad(notify_one(), PAIR, EARLY[:spot] + (wrong,) + rest, (spot, error))

    def test_runs_hang_on_the_book_and_the_programs(self):
        self.assert_bad(notify_one(), PAIR[::-1], EARLY, (1, "closed"))
        self.assert_bad(notify_one(), PAIR[:1], EARLY, (3, "form"))
        self.assert_bad(careless(), PAIR, EARLY, (2, "closed"))

    def test_at_most_four_hundred_moves(self):
        whole = whole_run(ENDLESS, TWOS)
        standing = led(ENDLESS, TWOS, whole)
        more = moves(ENDLESS, standing)[-1]
        self.assertEqual(len(whole), 400)
        self.assertIsNone(run_error(ENDLESS, TWOS, whole))
        self.assertIsNone(run_error(ENDLESS, TWOS, whole[:399]))
        self.assert_bad(ENDLESS, TWOS, whole + (more,), "form")
        self.assert_bad(ENDLESS, TWOS, whole[:399] + (None,), (399, "form"))
        self.assert_bad(ENDLESS, TWOS, whole[:399] + ((2, "on"),), (399, "closed"))

    def test_form_comes_ahead_of_wrong_moves(self):
        self.assert_bad(notify_one(), PAIR, (None,) * 401, "form")
        self.assert_bad(notify_one(), PAIR, (None,) * 400, (0, "form"))
        self.assert_bad(notify_one(), PAIR, [None], "form")

    def test_a_list_is_no_tuple(self):
        self.assert_bad(notify_one(), PAIR, list(EARLY), "form")
        self.assert_bad(notify_one(), PAIR, [], "form")
        self.assert_bad(notify_one(), PAIR, EARLY[:2] + ([0, "on"],), (2, "form"))
        self.assert_bad(notify_one(), PAIR, EARLY[:4] + ((1, "call", [0]),), (4, "form"))

    def test_values_of_all_kinds(self):
        for value in odd_values() + [PAIR, "0 on", {0: (0, "on")}, nested(20, EARLY), nested(30, EARLY)]:
            if value == ():
                continue
            right = isinstance(value, tuple) and len(value) <= 400
            self.assert_bad(notify_one(), PAIR, value, (0, "form") if right else "form")
            self.assert_bad(notify_one(), PAIR, (value,), (0, "form"))
            self.assert_bad(notify_one(), PAIR, ((0, "on"), (value, "on")), (1, "form"))
            self.assert_bad(notify_one(), PAIR, ((0, "on"), (0, value)), (1, "form"))

    def test_what_is_told_is_made_of_plain_values(self):
        told = run_error(notify_one(), PAIR, (None,))
        self.assertEqual([type(told)] + [type(item) for item in told], [tuple, int, str])

    def test_arguments_by_name(self):
        self.assertIsNone(run_error(value=EARLY, programs=PAIR, book=notify_one()))
        self.assertEqual(led(run=EARLY, programs=PAIR, book=notify_one()), by_hand(notify_one(), PAIR, EARLY))
        self.assertEqual(whole_run(programs=PAIR, book=notify_one()), whole_run(notify_one(), PAIR))


class RestsTest(unittest.TestCase):
    """[C1], [C3]: rests."""

    def test_each_phase(self):
        for phase in ("free", "late", "noted", "lying", "asleep", "woken", "calling", "storing", "passing", "yielding"):
            for mark in ("no", "called", "given"):
                for deeds in ("take 1", "wish 2", "put 1", "take 1, put 1"):
                    for others in ((), (((), "free", "no"),), (((("take", 1),), "asleep", "no"),)):
                        standing = (1, (), others + ((read_deeds(deeds), phase, mark),) + others)
                        self.assertIs(rests(standing), phase == "asleep")
                        self.assertIs(rests(standing=standing), phase == "asleep")

    def test_who_is_free_without_deeds(self):
        for tokens in (-1, 0, 7):
            for many in range(6):
                self.assertIs(rests((tokens, (), (((), "free", "no"),) * many)), True)

    def test_one_who_is_not_done_is_enough(self):
        for place in range(4):
            states = [((), "free", "no"), ((("take", 1),), "asleep", "no")] * 2
            states[place] = ((("put", 1),), "free", "no")
            self.assertIs(rests((0, (), tuple(states))), False)


class SleepersTest(unittest.TestCase):
    """[C3]: sleepers and harm."""

    def test_who_wants_no_more_than_lies_there(self):
        text = "{} tokens; row 3 0 1 2; 0 asleep: take 3; 1 asleep: wish 1; 2 asleep: take 2; 3 asleep: wish 4"
        for tokens, told in ((-1, ()), (0, ()), (1, (1,)), (2, (1, 2)), (3, (0, 1, 2)), (4, (0, 1, 2, 3)),
                             (9, (0, 1, 2, 3))):
            standing = read_standing(text.format(tokens))
            self.assertEqual(sleepers(standing), told)
            self.assertEqual(harm(standing), "overdrawn" if tokens < 0 else ("asleep", told) if told else None)

    def test_who_has_the_mark_given(self):
        standing = read_standing("0 tokens; row 2; 0 asleep given: take 3; 1 asleep given: wish 4; 2 asleep: take 1")
        self.assertEqual((sleepers(standing), harm(standing)), ((0, 1), ("asleep", (0, 1))))

    def test_who_was_called_is_as_who_was_not(self):
        standing = read_standing("2 tokens; row; 0 asleep called: take 3; 1 asleep called: take 2; 2 free:")
        self.assertEqual((sleepers(standing), harm(standing)), ((1,), ("asleep", (1,))))

    def test_only_those_who_are_asleep(self):
        for phase in ("free", "late", "noted", "lying", "woken", "passing", "yielding"):
            for mark in ("no", "called", "given"):
                standing = (5, (), (((("take", 1),), phase, mark), ((("take", 2),), "asleep", "no")))
                self.assertEqual(sleepers(standing), (1,))
                self.assertIsNone(harm(standing))

    def test_it_is_told_where_others_can_still_move(self):
        standing = read_standing("1 tokens; row 0; 0 asleep: take 1; 1 calling: put 1")
        self.assertEqual((sleepers(standing), harm(standing)), ((0,), None))

    def test_overdrawn_comes_first(self):
        for text in ("-1 tokens; row; 0 asleep given: take 1", "-1 tokens; row; 0 free:",
                     "-4 tokens; row; 0 storing: put 1"):
            self.assertEqual(harm(read_standing(text)), "overdrawn")

    def test_without_harm(self):
        for text in ("0 tokens; row 0; 0 asleep: take 1", "3 tokens; row 0; 0 asleep: take 4", "0 tokens; row; 0 free:",
                     "9 tokens; row; 0 free: take 1", "9 tokens; row; 0 lying: take 1"):
            self.assertIsNone(harm(read_standing(text)))

    def test_a_standing_without_hands(self):
        standing = (0, (), ())
        self.assertEqual((rests(standing), sleepers(standing), harm(standing)), (True, (), None))

    def test_arguments_by_name_and_what_is_returned(self):
        standing = read_standing("1 tokens; row 0; 0 asleep: take 1")
        self.assertEqual(sleepers(standing=standing), (0,))
        self.assertEqual(harm(standing=standing), ("asleep", (0,)))
        self.assertIs(type(sleepers(standing)), tuple)
        self.assertIs(type(harm(standing)[1]), tuple)


class WholeRunTest(unittest.TestCase):
    """[C4]: whole_run."""

    def told(self, book, programs):
        """The run that comes if always the first move is made that is no "away"."""
        standing, run = start(programs), []
        while len(run) < 400 and not rests(standing):
            run.append(next(move for move in moves(book, standing) if move[1] != "away"))
            standing = moved(book, standing, run[-1])
        return tuple(run)

    def test_as_told_of_many_programs_and_books(self):
        for book, programs in zip(BOOKS[::11], mixed_programs(315)):
            run = whole_run(book, programs)
            self.assertEqual(run, self.told(book, programs))
            self.assertIsNone(run_error(book, programs, run))
            self.assertTrue(len(run) == 400 or rests(led(book, programs, run)))
            self.assertNotIn("away", [move[1] for move in run])

    def test_nothing_to_do(self):
        for book in BOOKS[::101]:
            for many in range(1, 6):
                self.assertEqual(whole_run(book, ((),) * many), ())

    def test_wishes_stay(self):
        self.assertEqual(whole_run(notify_one(), ((("wish", 1),),)), ((0, "on"),) * 4)

    def test_it_ends_as_soon_as_it_rests(self):
        for book in KNOWN:
            for programs in mixed_programs(60, most=3):
                run = whole_run(book, programs)
                for end in range(len(run)):
                    self.assertFalse(rests(led(book, programs, run[:end])))

    def test_four_hundred_moves_without_rest(self):
        run = whole_run(ENDLESS, TWOS)
        self.assertEqual(len(run), 400)
        self.assertFalse(rests(led(ENDLESS, TWOS, run)))
        self.assertEqual(run[200:208], run[208:216])


class TimeTest(unittest.TestCase):
    """No call takes long."""

    def test_four_hundred_moves_of_five_hands(self):
        for words in ("order first", "order any"):
            for book in books_with("note ahead, call kept, woken tries, pass always, comers free, many all, "
                                   "fails back, put first, quits passes, " + words):
                begun = time.process_time()
                run = whole_run(book, TWOS)
                self.assertIsNone(run_error(book, TWOS, run))
                led(book, TWOS, run)
                self.assertEqual(len(run), 400)
                self.assertLess(time.process_time() - begun, 1)

    def test_wrong_values_are_soon_found(self):
        begun = time.process_time()
        for value in ((None,) * 4000, ((0, "on"),) * 4000, ((0, "call") + tuple(range(4000)),) * 400, "a" * 20000,
                      ((0, "on") * 200,) * 400):
            run_error(notify_one(), PAIR, value)
        self.assertLess(time.process_time() - begun, 1)


if __name__ == "__main__":
    unittest.main()
