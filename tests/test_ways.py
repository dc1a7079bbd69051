import unittest

from leftasleep.books import turned
from leftasleep.good import is_good
from leftasleep.knownbooks import careless, hand_off, notify_one
from leftasleep.programs import is_of, sorts
from leftasleep.runs import led, rests, sleepers
from leftasleep.ways import fed, least_want, on_way, owed, uncalled
from samples import BOOKS, Row, books_with, mixed_programs, read_deeds, read_standing
from weavings import walked, woven

DEFS = (uncalled, fed, on_way, owed, least_want)
PHASES = ("free", "late", "noted", "lying", "asleep", "woken", "calling", "storing", "passing", "yielding")
MARKS = ("no", "called", "given")
TAKE, TAKE_TWO, WISH, WISH_TWO, PUT, PUT_TWO = (
    ("take", 1), ("take", 2), ("wish", 1), ("wish", 2), ("put", 1), ("put", 2))
SMALL = (
    ((TAKE,), (PUT,)), ((TAKE,), (TAKE,), (PUT_TWO,)), ((TAKE,), (TAKE, PUT), (PUT,)), ((WISH,), (TAKE,), (PUT,)),
    ((WISH,), (WISH,), (PUT_TWO,)), ((TAKE_TWO,), (TAKE,), (PUT, PUT)), ((TAKE_TWO,), (TAKE_TWO,), (PUT,)),
    ((WISH_TWO,), (TAKE,), (PUT_TWO,)), ((WISH_TWO, TAKE), (PUT_TWO, PUT)),
)


def told(standing):
    return tuple(call(standing) for call in DEFS)


class ByHandTest(unittest.TestCase):
    """[G1], [G2], [G3]: standings that are written out."""

    def test_each_phase_and_mark(self):
        for phase in PHASES:
            for mark in MARKS:
                waits = phase in ("lying", "asleep") and mark == "no"
                goes = phase in ("calling", "passing", "yielding", "woken") or (
                    phase in ("noted", "lying") and mark != "no")
                for deeds in ("take 2, put 1", "wish 2"):
                    for tokens in range(-1, 5):
                        standing = (tokens, (), ((read_deeds(deeds), phase, mark),))
                        self.assertEqual(uncalled(standing), (0,) if waits else ())
                        self.assertEqual(fed(standing), (0,) if waits and tokens >= 2 else ())
                        self.assertEqual(on_way(standing), (0,) if goes else ())
                        self.assertEqual(least_want(standing), 2 if waits else None)

    def test_ascending_whatever_stands_on_the_row(self):
        standing = read_standing("2 tokens; row 3 0 2; 0 lying: take 2; 1 noted called: take 1; 2 asleep: wish 3; "
                                 "3 asleep: wish 1; 4 passing: take 1")
        self.assertEqual(told(standing), ((0, 2, 3), (0, 3), (1, 4), 0, 1))

    def test_fed_is_who_wants_no_more_than_lies_there(self):
        text = "{} tokens; row 3 2 1 0; 0 asleep: take 4; 1 lying: wish 3; 2 asleep: take 2; 3 lying: wish 1"
        for tokens, hands in ((-1, ()), (0, ()), (1, (3,)), (2, (2, 3)), (3, (1, 2, 3)), (4, (0, 1, 2, 3))):
            self.assertEqual(fed(read_standing(text.format(tokens))), hands)

    def test_sleepers_with_a_mark_are_neither(self):
        for mark in ("called", "given"):
            standing = read_standing("3 tokens; row; 0 asleep {}: take 1; 1 free:".format(mark))
            self.assertEqual(told(standing), ((), (), (), 0, None))

    def test_who_lies_with_a_mark_is_on_the_way(self):
        for phase in ("lying", "noted", "woken"):
            for mark in ("called", "given"):
                standing = read_standing("3 tokens; row; 0 {} {}: take 1".format(phase, mark))
                self.assertEqual(told(standing), ((), (), (0,), 0, None))

    def test_nobody_on_the_row(self):
        for phase in ("free", "late", "storing", "calling"):
            standing = read_standing("4 tokens; row; 0 {0}: put 1; 1 {0}: put 2".format(phase))
            self.assertEqual((uncalled(standing), fed(standing), least_want(standing)), ((), (), None))

    def test_owed_is_what_those_calling_put(self):
        standing = read_standing("9 tokens; row; 0 calling: put 4, take 1; 1 passing: take 3; 2 yielding: wish 2; "
                                 "3 storing: put 3; 4 calling: put 2")
        self.assertEqual(owed(standing), 6)
        self.assertEqual(owed(read_standing("0 tokens; row; 0 free: put 4; 1 storing: put 4; 2 free:")), 0)

    def test_least_want_and_ties(self):
        text = "0 tokens; row 0 1 2; 0 asleep: take {}; 1 lying: wish {}; 2 asleep: take {}; 3 noted: take 1"
        for wants in ((1, 1, 1), (2, 2, 3), (4, 3, 3), (4, 4, 4), (3, 1, 2)):
            self.assertEqual(least_want(read_standing(text.format(*wants))), min(wants))

    def test_a_standing_without_hands(self):
        self.assertEqual(told((0, (), ())), ((), (), (), 0, None))

    def test_hands_that_are_done(self):
        self.assertEqual(told(read_standing("4 tokens; row; 0 free:; 1 free:")), ((), (), (), 0, None))

    def test_arguments_by_name_and_what_is_returned(self):
        standing = read_standing("2 tokens; row 0; 0 asleep: take 2; 1 calling: put 2")
        self.assertEqual([call(standing=standing) for call in DEFS], [(0,), (0,), (1,), 2, 2])
        self.assertEqual([type(one) for one in told(standing)], [tuple, tuple, tuple, int, int])

    def test_by_runs(self):
        asleep = ((0, "on"),) * 4 + ((1, "on"),) * 4
        programs = ((TAKE_TWO,), (TAKE,), (PUT,))
        lost = led(notify_one(), programs, asleep + ((2, "on"), (2, "call", 0), (0, "on"), (0, "on"), (0, "on")))
        self.assertEqual(told(lost), ((0, 1), (1,), (), 0, 1))
        last = turned(notify_one(), "put", "last")
        calling = led(last, programs, asleep + ((2, "on"),))
        self.assertEqual((told(calling), calling[0]), (((0, 1), (), (2,), 1, 1), 0))
        self.assertEqual(told(led(last, programs, asleep + ((2, "on"), (2, "call", 0)))), ((1,), (), (0,), 0, 1))


class HoldsTest(unittest.TestCase):
    """[G4]: what holds by good books, at each standing that comes."""

    @classmethod
    def setUpClass(cls):
        """For each sort standings by books that are good for it, of all weavings of small programs and along runs."""
        cls.found = []
        numbers = Row(11)
        mixed = mixed_programs(150, (TAKE, TAKE, TAKE_TWO, WISH, WISH_TWO, PUT, PUT_TWO, ("put", 4)), 3)
        for sort in sorts():
            for place, book in enumerate(book for book in BOOKS if is_good(book, sort)):
                several = [programs for programs in SMALL if is_of(programs, sort)]
                programs = several[place % len(several)]
                cls.found.append((book, sort, programs, list(woven(book, programs))))
                for programs in [programs for programs in mixed if is_of(programs, sort)][place % 5::5]:
                    standings = [behind for _, _, behind in walked(book, programs, numbers, 150)]
                    cls.found.append((book, sort, programs, standings))

    def assert_by(self, books, holds, allowed=lambda book, sort, programs: True):
        """holds is true at each standing that came by one of these books; there are some where it matters."""
        many = 0
        for book, sort, programs, standings in self.found:
            if book in books and allowed(book, sort, programs):
                many += sum(uncalled(standing) != () for standing in standings)
                for standing in standings:
                    self.assertTrue(holds(standing), (book, programs, standing))
        self.assertGreater(many, 100)

    def test_if_somebody_is_fed_somebody_is_on_the_way(self):
        self.assert_by(set(BOOKS), lambda standing: fed(standing) == () or on_way(standing) != ())

    def test_where_all_are_called_somebody_is_calling(self):
        self.assert_by(set(books_with("woken tries, many all, pass never")), lambda standing: fed(standing) == () or any(
            phase == "calling" for _, phase, _ in standing[2]))

    def test_where_each_is_called_tokens_are_at_most_what_is_owed_and_called_and_passing(self):
        def holds(standing):
            called = sum(phase == "woken" or phase in ("noted", "lying") and mark == "called"
                         for _, phase, mark in standing[2])
            passing = sum(phase == "passing" for _, phase, _ in standing[2])
            return uncalled(standing) == () or standing[0] <= owed(standing) + called + passing
        self.assert_by(set(books_with("woken tries, many each, pass never")), holds,
                       lambda book, sort, programs: is_of(programs, ("like", "leaving")))

    def test_where_they_are_given_tokens_less_owed_are_less_than_the_least_want(self):
        self.assert_by(set(books_with("woken given, many each|all, pass never")), lambda standing: uncalled(
            standing) == () or standing[0] - owed(standing) < least_want(standing),
            lambda book, sort, programs: is_of(programs, ("any", "staying")))

    def test_at_rest_nobody_is_fed(self):
        self.assert_by(set(BOOKS), lambda standing: not rests(standing) or fed(standing) == ())

    def test_whatever_the_book_who_is_uncalled_stands_on_the_row(self):
        numbers = Row(12)
        for book, programs in zip(BOOKS[::7], mixed_programs(490, most=3)):
            for _, _, standing in walked(book, programs, numbers, 60):
                self.assertLessEqual(set(uncalled(standing)), set(standing[1]))
                if rests(standing) and book[1] == "kept":
                    self.assertEqual(fed(standing), sleepers(standing))

    def test_where_calls_are_kept_fed_is_sleepers_at_rest(self):
        many = 0
        for book in BOOKS[::37]:
            for programs in SMALL[:6]:
                for standing in woven(book, programs):
                    if rests(standing) and book[1] == "kept":
                        self.assertEqual(fed(standing), sleepers(standing))
                        many += fed(standing) != ()
        self.assertGreater(many, 10)

    def test_by_other_books_it_does_not_hold(self):
        for book, programs in ((careless(), SMALL[0]), (notify_one(), SMALL[5]),
                               (turned(hand_off(), "order", "first"), SMALL[5])):
            self.assertTrue(any(fed(standing) and not on_way(standing) for standing in woven(book, programs)))


if __name__ == "__main__":
    unittest.main()
