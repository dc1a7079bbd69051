import copy
import time
import unittest

from leftasleep.books import turned
from leftasleep.counting import can_fail, can_pass_over, served, tally
from leftasleep.errors import BadRun
from leftasleep.good import is_good
from leftasleep.knownbooks import careless, hand_off, notify_all, notify_one
from leftasleep.moving import moved, moves
from leftasleep.programs import is_of, sort_of, sorts
from leftasleep.runs import led, rests, whole_run
from leftasleep.standings import start
from samples import BOOKS, Row, books_with, mixed_programs
from values import nested, odd_values
from weavings import walked

TAKE, TAKE_TWO, WISH, WISH_TWO, PUT, PUT_TWO = (
    ("take", 1), ("take", 2), ("wish", 1), ("wish", 2), ("put", 1), ("put", 2))
NOTHING = (0,) * 7
LOST = turned(notify_one(), "call", "lost")
ALWAYS = turned(notify_one(), "pass", "always")
EARLY = ((0, "on"),) * 3
ASLEEP = ((0, "on"),) * 4


def kept(standing):
    """How many tokens lie in the pool or were given to somebody who has not moved yet."""
    return standing[0] + sum(left[0][1] for left, _, mark in standing[2] if mark == "given")


def second_tally(steps):
    """The seven numbers, told by marks that come and end, and by tokens that are taken away."""
    told = dict.fromkeys(("called", "failed", "filled", "gone", "firsts", "over", "lasts"), 0)
    for ahead, (hand, word, *others), behind in steps:
        told["called"] += len(others)
        left, phase, mark = ahead[2][hand]
        took = word == "on" and left[0][0] != "put" and kept(behind) < kept(ahead)
        if mark != "no" and behind[2][hand][2] == "no":
            told["gone" if word == "away" else "filled" if took else "failed"] += 1
        elif took:
            told["firsts" if phase == "free" else "lasts"] += 1
            told["over"] += phase == "free" and ahead[1] != ()
    return tuple(told.values())


def second_served(steps):
    return tuple(move[0] for ahead, move, behind in steps
                 if move[1] == "on" and ahead[2][move[0]][0][0][0] != "put" and kept(behind) < kept(ahead))


class ByHandTest(unittest.TestCase):
    """[H1], [H2]: each kind of move, counted by hand."""

    def assert_counts(self, book, programs, run, hands=(), **counts):
        names = ("called", "failed", "filled", "gone", "firsts", "over", "lasts")
        self.assertEqual(tally(book, programs, run), tuple(counts.get(name, 0) for name in names))
        self.assertEqual(served(book, programs, run), hands)

    def test_nothing_is_counted_of_puts_and_waiting(self):
        self.assert_counts(notify_one(), ((TAKE,),), ASLEEP)
        self.assert_counts(notify_one(), ((PUT, PUT_TWO),), ((0, "on"), (0, "call")) * 2)
        self.assert_counts(careless(), ((PUT,),), ((0, "on"), (0, "call"), (0, "on")))
        self.assert_counts(notify_one(), ((TAKE,), ()), ())

    def test_firsts(self):
        programs = ((PUT_TWO, TAKE, WISH),)
        self.assert_counts(notify_one(), programs, ((0, "on"), (0, "call"), (0, "on"), (0, "on")), (0, 0), firsts=2)

    def test_over_others(self):
        programs = ((TAKE_TWO,), (TAKE,), (PUT,), (TAKE,))
        run = ASLEEP + ((2, "on"), (1, "on"), (3, "on"))
        self.assert_counts(notify_one(), programs, run, (1,), firsts=1, over=1)
        self.assert_counts(turned(notify_one(), "comers", "behind"), programs, run)
        self.assert_counts(notify_one(), programs, ((0, "on"), (2, "on"), (1, "on")), (1,), firsts=1)

    def test_lasts(self):
        programs = ((TAKE,), (PUT,))
        for many in (1, 2):
            run = EARLY[:many] + ((1, "on"),) + EARLY[many:]
            self.assert_counts(notify_one(), programs, run, (0,), lasts=1)
        self.assert_counts(notify_one(), programs, EARLY + ((1, "on"), (0, "on")))

    def test_lasts_while_others_stand_on_the_row_are_not_over(self):
        programs = ((TAKE_TWO,), (TAKE,), (PUT,))
        run = ASLEEP + ((1, "on"), (1, "on"), (2, "on"), (1, "on"))
        self.assert_counts(notify_one(), programs, run, (1,), lasts=1)

    def test_filled_by_one_who_was_woken(self):
        programs, run = ((TAKE,), (PUT,)), ASLEEP + ((1, "on"), (1, "call", 0), (0, "on"))
        for book in (notify_one(), notify_all(), hand_off(), turned(notify_one(), "woken", "takes")):
            self.assert_counts(book, programs, run[:-1], called=1)
            self.assert_counts(book, programs, run, (0,), called=1, filled=1)

    def test_filled_by_one_who_takes_what_is_not_there(self):
        run = ((0, "on"), (0, "on"), (1, "on"), (1, "call", 0), (0, "on"))
        self.assert_counts(careless(), ((TAKE,), (PUT,)), run, (0,), called=1, filled=1)

    def test_filled_by_one_who_is_noted(self):
        programs, run = ((TAKE,), (PUT,)), EARLY[:2] + ((1, "on"), (1, "call", 0), (0, "on"))
        for book in (notify_one(), hand_off(), LOST):
            self.assert_counts(book, programs, run, (0,), called=1, filled=1)

    def test_filled_counts_once_for_one_who_passes_on(self):
        programs = ((TAKE,), (TAKE,), (PUT_TWO,))
        run = ASLEEP + ((1, "on"),) * 4 + ((2, "on"), (2, "call", 0), (0, "on"))
        self.assert_counts(notify_one(), programs, run, (0,), called=1, filled=1)
        self.assertEqual(led(notify_one(), programs, run)[2][0][1], "passing")
        self.assert_counts(notify_one(), programs, run + ((0, "call", 1),), (0,), called=2, filled=1)
        self.assert_counts(notify_one(), programs, run + ((0, "call", 1), (1, "on")), (0, 1), called=2, filled=2)

    def test_one_who_lies_called_keeps_its_mark(self):
        run = EARLY + ((1, "on"), (1, "call", 0), (0, "on"))
        for book in (notify_one(), LOST, hand_off()):
            self.assert_counts(book, ((TAKE,), (PUT,)), run, called=1)

    def test_a_last_try_that_fails_with_a_mark_is_no_failure(self):
        programs = ((TAKE_TWO,), (PUT,))
        run = EARLY[:2] + ((1, "on"), (1, "call", 0), (0, "on"), (0, "on"))
        self.assert_counts(notify_one(), programs, run, called=1)
        self.assert_counts(notify_one(), programs, run + ((0, "on"),), called=1, failed=1)

    def test_failed_by_one_who_goes_back(self):
        run = ASLEEP + ((1, "on"), (1, "call", 0), (0, "on"))
        for fails in ("back", "front"):
            for note in ("ahead", "behind"):
                book = turned(turned(notify_one(), "fails", fails), "note", note)
                moving = run if note == "ahead" else run[2:]
                self.assert_counts(book, ((TAKE_TWO,), (PUT,)), moving, called=1, failed=1)

    def test_failed_by_one_who_yields_counts_once(self):
        programs = ((TAKE_TWO,), (TAKE_TWO,), (PUT,))
        run = ASLEEP + ((1, "on"),) * 4 + ((2, "on"), (2, "call", 0), (0, "on"))
        self.assert_counts(ALWAYS, programs, run, called=1, failed=1)
        self.assert_counts(ALWAYS, programs, run + ((0, "call", 1),), called=2, failed=1)
        self.assert_counts(ALWAYS, programs, run + ((0, "call", 1), (0, "on"), (0, "on"), (1, "on")), called=2, failed=2)

    def test_gone_of_each_phase(self):
        programs = ((WISH,), (PUT,))
        call = ((1, "on"), (1, "call", 0))
        for many in (2, 3, 4):
            run = ASLEEP[:many] + call + ((0, "away"),)
            for book in (notify_one(), hand_off(), turned(notify_one(), "quits", "drops")):
                self.assert_counts(book, programs, run, called=1, gone=1)
        self.assert_counts(LOST, programs, EARLY + call + ((0, "on"), (0, "away")), called=1, gone=1)

    def test_gone_and_passing_counts_once(self):
        programs = ((WISH,), (TAKE,), (PUT,))
        run = ASLEEP + ((1, "on"),) * 4 + ((2, "on"), (2, "call", 0), (0, "away"))
        self.assert_counts(notify_one(), programs, run, called=1, gone=1)
        self.assert_counts(notify_one(), programs, run + ((0, "call", 1), (1, "on")), (1,), called=2, gone=1, filled=1)

    def test_who_goes_away_uncalled_is_not_counted(self):
        for many in (2, 3, 4):
            self.assert_counts(notify_one(), ((WISH,), (PUT,)), ASLEEP[:many] + ((0, "away"),))

    def test_several_are_called_at_once(self):
        programs = ((TAKE,), (TAKE,), (TAKE,), (PUT_TWO,))
        run = tuple((hand, "on") for hand in (0, 1, 2) for _ in range(4)) + ((3, "on"), (3, "call", 0, 1, 2))
        behind = ((2, "on"), (0, "on"), (1, "on"))
        self.assert_counts(notify_all(), programs, run, called=3)
        self.assert_counts(notify_all(), programs, run + behind, (2, 0), called=3, filled=2, failed=1)

    def test_all_seven(self):
        programs = ((WISH,), (TAKE_TWO,), (TAKE, TAKE), (PUT, PUT_TWO, PUT, PUT_TWO), (TAKE, TAKE))
        run = ((3, "on"), (4, "on"), (3, "call")) + ASLEEP + ((1, "on"),) * 4
        run += ((3, "on"), (4, "on"), (3, "call", 0, 1), (0, "away"), (1, "on"), (2, "on"), (2, "on"), (2, "on"))
        run += ((3, "on"), (2, "on"), (3, "call", 1), (3, "on"), (1, "on"), (3, "call"))
        self.assert_counts(notify_all(), programs, run, (4, 4, 2, 2, 1),
                           called=3, failed=1, filled=1, gone=1, firsts=3, over=2, lasts=1)

    def test_served_in_order(self):
        programs = ((TAKE, TAKE), (TAKE,), (PUT, PUT, PUT))
        run = ((2, "on"), (2, "call"), (2, "on"), (2, "call"), (0, "on"), (1, "on"), (2, "on"), (2, "call"), (0, "on"))
        self.assert_counts(notify_one(), programs, run, (0, 1, 0), firsts=3)

    def test_arguments_by_name_and_what_is_returned(self):
        programs, run = ((TAKE,), (PUT,)), ASLEEP + ((1, "on"), (1, "call", 0), (0, "on"))
        told = tally(run=run, programs=programs, book=notify_one())
        self.assertEqual([type(told)] + [type(one) for one in told], [tuple] + [int] * 7)
        self.assertEqual(served(run=run, programs=programs, book=notify_one()), (0,))
        self.assertEqual((can_fail(book=notify_one()), can_pass_over(book=notify_one())), (True, True))


class NoRunTest(unittest.TestCase):
    """[H1]: values that are no runs."""

    def assert_bad(self, value, error, programs=((TAKE,), (PUT,))):
        before = copy.deepcopy(value)
        for call in (tally, served):
            with self.assertRaises(BadRun) as held:
                call(notify_one(), programs, value)
            self.assertEqual(held.exception.error, error)
        self.assertEqual(value, before)

    def test_values_of_all_kinds(self):
        for value in odd_values() + [nested(20, ASLEEP), list(ASLEEP), "0 on", {0: (0, "on")}]:
            if value != ():
                right = isinstance(value, tuple) and len(value) <= 400
                self.assert_bad(value, (0, "form") if right else "form")
            self.assert_bad(((0, "on"), value), (1, "form"))

    def test_the_first_wrong_move_is_told(self):
        self.assert_bad(((0, "call", 1),), (0, "closed"))
        self.assert_bad(ASLEEP + ((0, "on"), None), (4, "closed"))
        self.assert_bad(ASLEEP[:2] + ((2, "on"),) + ASLEEP, (2, "form"))
        self.assert_bad(ASLEEP + ((1, "on"), (1, "call", False)), (5, "form"))

    def test_four_hundred_moves_and_one_more(self):
        programs = ((TAKE_TWO,), (TAKE_TWO,), (PUT,))
        run = whole_run(ALWAYS, programs)
        self.assertEqual(len(run), 400)
        self.assertEqual((tally(ALWAYS, programs, run)[1] > 90, served(ALWAYS, programs, run)), (True, ()))
        for call in (tally, served):
            self.assertRaises(BadRun, call, ALWAYS, programs, run + run[-1:])

    def test_it_takes_no_long(self):
        programs = ((TAKE_TWO,), (TAKE_TWO,), (PUT,), (("wish", 4),), (TAKE_TWO,))
        run = whole_run(ALWAYS, programs)
        begun = time.process_time()
        tally(ALWAYS, programs, run)
        served(ALWAYS, programs, run)
        self.assertLess(time.process_time() - begun, 1)


class CanTest(unittest.TestCase):
    """[H3], [H4]: can_fail and can_pass_over, for all books."""

    def on(self, book, programs, run, hand, phases):
        """The run with the hand's moves behind it, till it is in one of these phases; it calls the first that it can."""
        while led(book, programs, run)[2][hand][1] not in phases:
            run += (next(move for move in moves(book, led(book, programs, run)) if move[0] == hand),)
        return run

    def test_can_fail(self):
        programs = ((TAKE_TWO,), (PUT,))
        for book in BOOKS:
            self.assertIs(can_fail(book), book[4] == "tries")
        for book in books_with("woken tries")[::3]:
            run = self.on(book, programs, (), 0, ("asleep",)) + ((1, "on"), (1, "call", 0), (0, "on"))
            self.assertEqual(tally(book, programs, run)[:2], (1, 1))

    def test_can_pass_over(self):
        programs = ((TAKE_TWO,), (PUT,), (TAKE,))
        for book in BOOKS:
            self.assertIs(can_pass_over(book), book[8] == "free")
        for book in books_with("comers free")[::3]:
            run = self.on(book, programs, ((1, "on"), (1, "call")), 0, ("asleep",))
            if led(book, programs, run)[2][1][1] == "storing":
                run += ((1, "on"),)
            self.assertEqual(tally(book, programs, run + ((2, "on"),))[4:6], (1, 1))

    def test_by_runs_neither_comes_where_it_cannot(self):
        numbers = Row(21)
        deeds = (TAKE, TAKE_TWO, WISH, PUT, PUT, PUT_TWO)
        for place, programs in enumerate(mixed_programs(800, deeds, 4)):
            book = BOOKS[place * 13 % len(BOOKS)]
            told = tally(book, programs, tuple(move for _, move, _ in walked(book, programs, numbers, 60)))
            self.assertTrue(told[1] == 0 or can_fail(book))
            self.assertTrue(told[5] == 0 or can_pass_over(book))

    def test_by_good_books(self):
        for sort in sorts():
            for book in BOOKS:
                if is_good(book, sort):
                    self.assertIs(can_pass_over(book), True)
                    self.assertIs(can_fail(book), book[4] != "given")


class HoldsTest(unittest.TestCase):
    """[H4]: what holds of counts, along runs by all books."""

    @classmethod
    def setUpClass(cls):
        numbers = Row(22)
        deeds = (TAKE, TAKE, TAKE_TWO, WISH, WISH_TWO, PUT, PUT, PUT_TWO, ("put", 3))
        programs = mixed_programs(500, deeds, 3)
        cls.runs = []
        for place, book in enumerate(BOOKS):
            chosen = programs[place % 500]
            steps = walked(book, chosen, numbers, 60)
            cls.runs.append((book, chosen, steps, tuple(move for _, move, _ in steps)))

    def test_beside_a_second_way(self):
        found = set()
        for book, programs, steps, run in self.runs:
            told = tally(book, programs, run)
            self.assertEqual(told, second_tally(steps))
            self.assertEqual(served(book, programs, run), second_served(steps))
            found |= {place for place, many in enumerate(told) if many}
        self.assertEqual(found, set(range(7)))

    def test_what_becomes_of_calls(self):
        for book, programs, steps, run in self.runs:
            for end in (len(run) // 3, len(run) // 2, len(run)):
                called, failed, filled, gone, firsts, _, lasts = tally(book, programs, run[:end])
                marks = sum(mark != "no" for _, _, mark in led(book, programs, run[:end])[2])
                self.assertEqual(called, failed + filled + gone + marks)
                self.assertEqual(len(served(book, programs, run[:end])), filled + firsts + lasts)

    def test_counts_grow_along_a_run(self):
        for book, programs, _, run in self.runs[::40]:
            told = [tally(book, programs, run[:end]) for end in range(len(run) + 1)]
            self.assertEqual(told[0], NOTHING)
            for less, more in zip(told, told[1:]):
                self.assertTrue(all(one <= two for one, two in zip(less, more)))

    def test_in_vain_only_for_what_was_taken(self):
        numbers, most = Row(23), 0
        good = [book for book in books_with("woken tries, many each, pass never") if is_good(book, ("like", "leaving"))]
        for programs in mixed_programs(600, (TAKE, WISH, PUT, PUT_TWO, ("put", 3)), 4):
            book = numbers.one_of(good)
            steps = walked(book, programs, numbers, 200)
            _, failed, _, _, firsts, _, lasts = tally(book, programs, tuple(move for _, move, _ in steps))
            self.assertLessEqual(failed, firsts + lasts)
            most = max(most, failed)
        self.assertGreater(most, 0)

    def test_where_they_are_given_first_ones_are_called_first(self):
        numbers, most = Row(24), 0
        books = books_with("woken given, order first")
        for programs in mixed_programs(400, (TAKE, WISH, TAKE_TWO, PUT, PUT_TWO, ("put", 4)), 4):
            book = numbers.one_of(books)
            came, called = {}, []
            for place, (ahead, move, behind) in enumerate(walked(book, programs, numbers, 120)):
                came.update({hand: place for hand in behind[1] if hand not in ahead[1]})
                called.extend(came[hand] for hand in move[2:])
            self.assertEqual(called, sorted(called))
            most = max(most, len(called))
        self.assertGreater(most, 4)

    def test_what_was_put_lies_there_or_was_taken(self):
        numbers, many = Row(25), 0
        for programs in mixed_programs(300, (TAKE, WISH, TAKE_TWO, PUT, PUT_TWO, ("put", 4)), 3):
            book = numbers.one_of([book for book in BOOKS if is_good(book, sort_of(programs))])
            steps = walked(book, programs, numbers, 400)
            run = tuple(move for _, move, _ in steps)
            standing = steps[-1][2] if steps else start(programs)
            if "away" in [move[1] for move in run] or not rests(standing):
                continue
            put = sum(number for program, (left, _, _) in zip(programs, standing[2])
                      for word, number in program[:len(program) - len(left)] if word == "put")
            taken, done = 0, [0] * len(programs)
            for hand in served(book, programs, run):
                wants = [number for word, number in programs[hand] if word != "put"]
                taken += wants[done[hand]]
                done[hand] += 1
            self.assertEqual(put, standing[0] + taken)
            many += taken > 0
        self.assertGreater(many, 50)

    def test_all_moves_of_small_weavings(self):
        for book in BOOKS[::29]:
            for programs in (((TAKE,), (PUT,)), ((WISH,), (PUT, TAKE)), ((TAKE_TWO,), (TAKE,), (PUT_TWO,))):
                self.assertTrue(is_of(programs, ("any", "leaving")))
                standing, run, steps = start(programs), (), []
                while moves(book, standing):
                    move = moves(book, standing)[-1]
                    steps.append((standing, move, moved(book, standing, move)))
                    standing, run = steps[-1][2], run + (move,)
                    self.assertEqual(tally(book, programs, run), second_tally(steps))


if __name__ == "__main__":
    unittest.main()
