import unittest

from leftasleep.good import is_good, lacks
from leftasleep.knownbooks import careless, notify_all, notify_one
from leftasleep.moving import moved, moves
from leftasleep.programs import is_of, sort_of
from leftasleep.runs import harm, led, rests, run_error, sleepers
from leftasleep.runtexts import read_run, run_text
from leftasleep.standings import start
from samples import BOOKS, Row, books_with, mixed_programs
from weavings import does_harm, has_round, walked, woven

SORTS = LIKE, LIKE_LEAVING, ANY, ANY_LEAVING = (
    ("like", "staying"), ("like", "leaving"), ("any", "staying"), ("any", "leaving"))
TAKE, TAKE_TWO, WISH, WISH_TWO, PUT, PUT_TWO = (
    ("take", 1), ("take", 2), ("wish", 1), ("wish", 2), ("put", 1), ("put", 2))

# For each word that a book may lack programs that come to harm by books that lack nothing ahead of it ([M7]).
LOSING = {
    "note": ((TAKE,), (PUT,)),
    "call": ((TAKE,), (PUT,)),
    "put": ((TAKE,), (PUT,)),
    "takes": ((TAKE,), (PUT,), (TAKE,)),
    "comers": ((TAKE,), (TAKE,), (PUT_TWO,)),
    "one": ((TAKE,), (TAKE,), (PUT_TWO,)),
    "drops": ((WISH,), (TAKE,), (PUT,)),
    "always": ((TAKE_TWO,), (TAKE_TWO,), (PUT,)),
    "many": ((TAKE_TWO,), (TAKE,), (PUT,)),
    "first": ((TAKE_TWO,), (TAKE,), (PUT,)),
    "never": ((WISH_TWO,), (TAKE,), (TAKE,), (PUT_TWO,)),
}
SMALL = (
    ((TAKE,), (PUT,)), ((TAKE,), (TAKE,), (PUT_TWO,)), ((TAKE,), (TAKE, PUT), (PUT, PUT)), ((WISH,), (TAKE,), (PUT,)),
    ((WISH,), (WISH,), (PUT_TWO,)), ((WISH, TAKE), (PUT,), (PUT,)), ((TAKE_TWO,), (TAKE,), (PUT, PUT)),
    ((TAKE_TWO,), (TAKE_TWO,), (PUT,)), ((WISH_TWO,), (TAKE,), (PUT_TWO,)), ((WISH_TWO,), (TAKE_TWO,), (PUT_TWO, PUT)),
)


def stored(book, ahead, move):
    """How many tokens the move brings into the pool by a put."""
    (word, number), phase = ahead[2][move[0]][0][0], ahead[2][move[0]][1]
    if word == "put" and phase == ("free" if book[2] == "first" else "storing"):
        return number
    return 0


def got(ahead, move, behind):
    """How many tokens the hand has by the move, be it that it was given them."""
    left, phase, _ = ahead[2][move[0]]
    later, then, _ = behind[2][move[0]]
    tried = move[1] == "on" and left[0][0] != "put" and phase in ("free", "noted", "woken")
    return left[0][1] if tried and (then == "passing" or len(later) < len(left)) else 0


class AlongRunsTest(unittest.TestCase):
    """[B6], [C6]: what holds along many runs by all books."""

    @classmethod
    def setUpClass(cls):
        """A run by each book, of programs with small wants, so that many wait."""
        numbers = Row(6)
        deeds = (TAKE, TAKE, TAKE_TWO, WISH, WISH_TWO, PUT, PUT, PUT_TWO, ("put", 3))
        programs = mixed_programs(500, deeds, 3)
        cls.runs = []
        for place, book in enumerate(BOOKS):
            chosen = programs[place % 500]
            cls.runs.append((book, chosen, walked(book, chosen, numbers, 40)))

    def test_the_runs_go_through_all_phases_and_marks(self):
        found = {(phase, mark) for _, _, steps in self.runs for _, _, behind in steps for _, phase, mark in behind[2]}
        marked = {(phase, mark) for phase in ("noted", "lying", "woken", "asleep") for mark in ("called", "given")}
        self.assertEqual(found, marked | {(phase, "no") for phase in (
            "free", "late", "noted", "lying", "asleep", "calling", "storing", "passing", "yielding")})

    def test_who_is_on_the_row(self):
        for _, _, steps in self.runs:
            for _, _, (_, row, states) in steps:
                waiting = [hand for hand, (_, phase, mark) in enumerate(states)
                           if phase in ("noted", "lying", "asleep") and mark == "no"]
                self.assertEqual(sorted(row), waiting)

    def test_who_has_a_mark(self):
        for book, _, steps in self.runs:
            for _, _, (_, _, states) in steps:
                for _, phase, mark in states:
                    if phase in ("free", "late", "calling", "storing", "passing", "yielding"):
                        self.assertEqual(mark, "no")
                    if phase == "woken":
                        self.assertNotEqual(mark, "no")
                    self.assertNotEqual(mark, "called" if book[4] == "given" else "given")

    def test_tokens_are_what_was_put_less_what_was_taken(self):
        for book, _, steps in self.runs:
            kept = 0
            for ahead, move, behind in steps:
                kept += stored(book, ahead, move) - got(ahead, move, behind)
                given = sum(left[0][1] for left, _, mark in behind[2] if mark == "given")
                self.assertEqual(behind[0] + given, kept)

    def test_tokens_are_below_nothing_only_where_woken_ones_take(self):
        overdrawn = {book[4] for book, _, steps in self.runs for _, _, behind in steps if behind[0] < 0}
        self.assertEqual(overdrawn, {"takes"})
        for book, _, steps in self.runs:
            for _, _, behind in steps:
                self.assertEqual(harm(behind) == "overdrawn", behind[0] < 0)

    def test_who_can_move(self):
        for book, _, steps in self.runs:
            for _, _, standing in steps:
                made = moves(book, standing)
                self.assertEqual(made, tuple(sorted(set(made))))
                still = [phase == "free" and left == () or phase == "asleep" and left[0][0] == "take"
                         for left, phase, _ in standing[2]]
                self.assertEqual(made == (), all(still))
                for hand, (left, phase, _) in enumerate(standing[2]):
                    words = [move[1] for move in made if move[0] == hand and move[1] != "away"]
                    if phase == "asleep" or left == ():
                        self.assertEqual(words, [])
                    elif phase in ("calling", "passing", "yielding"):
                        self.assertEqual(set(words), {"call"})
                        self.assertTrue(len(words) == 1 or book[9] == "any")
                    else:
                        self.assertEqual(words, ["on"])

    def test_whom_a_move_changes(self):
        for _, _, steps in self.runs:
            for ahead, move, behind in steps:
                changed = [hand for hand, (one, two) in enumerate(zip(ahead[2], behind[2])) if one != two]
                self.assertEqual(changed, sorted((move[0],) + move[2:]))
                for hand in move[2:]:
                    self.assertIn(hand, ahead[1])
                    self.assertNotIn(hand, behind[1])

    def test_who_rests(self):
        for book, _, steps in self.runs:
            for _, _, standing in steps:
                self.assertEqual(rests(standing), all(move[1] == "away" for move in moves(book, standing)))
                if isinstance(harm(standing), tuple):
                    self.assertTrue(rests(standing) and standing[0] >= 0)
                    self.assertEqual(harm(standing), ("asleep", sleepers(standing)))

    def test_where_calls_are_kept_nobody_is_asleep_with_a_mark(self):
        asleep = {book[1] for book, _, steps in self.runs for _, _, behind in steps for _, phase, mark in behind[2]
                  if phase == "asleep" and mark != "no"}
        self.assertEqual(asleep, {"lost"})

    def test_they_are_runs_and_their_texts_are_read_back(self):
        for book, programs, steps in self.runs:
            run = tuple(move for _, move, _ in steps)
            self.assertIsNone(run_error(book, programs, run))
            self.assertEqual(led(book, programs, run), steps[-1][2] if steps else start(programs))
            self.assertEqual(read_run(run_text(run)), run)

    def test_good_books_do_no_harm_along_their_runs(self):
        for book, programs, steps in self.runs:
            if is_good(book, sort_of(programs)):
                self.assertEqual([harm(behind) for _, _, behind in steps], [None] * len(steps))


class GoodBooksTest(unittest.TestCase):
    """[D1], [D4]: good books do no harm, and the others do."""

    def test_good_books_along_runs(self):
        numbers = Row(7)
        deeds = {LIKE: (TAKE, PUT, PUT_TWO), LIKE_LEAVING: (TAKE, WISH, PUT, PUT_TWO),
                 ANY: (TAKE, TAKE_TWO, ("take", 3), PUT, PUT_TWO, ("put", 4)),
                 ANY_LEAVING: (TAKE, WISH_TWO, ("wish", 3), TAKE_TWO, PUT, PUT_TWO, ("put", 4))}
        for sort in SORTS:
            for place, programs in enumerate(mixed_programs(60, deeds[sort], 3)):
                self.assertTrue(is_of(programs, sort))
                good = [book for book in BOOKS if is_good(book, sort)]
                for book in good[place % 7::7]:
                    steps = walked(book, programs, numbers, 400)
                    standings = [start(programs)] + [behind for _, _, behind in steps]
                    self.assertTrue(rests(standings[-1]))
                    self.assertEqual([harm(standing) for standing in standings], [None] * len(standings))
                    self.assertEqual(len(set(standings)), len(standings))

    def test_good_books_in_all_weavings_of_small_programs(self):
        for book in BOOKS:
            for programs in SMALL:
                if is_good(book, sort_of(programs)):
                    self.assertFalse(does_harm(book, programs), (book, programs))

    def test_other_books_do_harm_in_some_weaving(self):
        chosen = list(BOOKS[::23]) + [book for book in BOOKS if len(lacks(book, ANY_LEAVING)) == 1]
        for book in chosen:
            for word in sorted({lacks(book, sort)[0] for sort in SORTS if lacks(book, sort)}):
                self.assertTrue(does_harm(book, LOSING[word]), (book, word))

    def test_losing_programs_are_of_the_sorts_that_need_the_word(self):
        for book in BOOKS:
            for sort in SORTS:
                for word in lacks(book, sort)[:1]:
                    self.assertTrue(is_of(LOSING[word], sort))

    def test_how_many_standings_come(self):
        always = books_with("note ahead, call kept, put first, many all, woken tries, fails back, pass always, "
                            "quits drops, comers free, order first")[0]
        greedy = ((TAKE_TWO,), (TAKE_TWO,), (PUT,))
        self.assertEqual([len(woven(book, ((TAKE,), (PUT,)))) for book in (notify_one(), careless())], [18, 16])
        self.assertEqual(len(woven(notify_one(), ((TAKE,), (TAKE,), (PUT,)))), 134)
        self.assertEqual((len(woven(always, greedy)), has_round(woven(always, greedy))), (147, True))
        self.assertFalse(has_round(woven(notify_all(), greedy)))


class LeftAsleepTest(unittest.TestCase):
    """[C6]: who is left asleep stays so, unless somebody goes away."""

    def test_no_other_move_can_be_made(self):
        for book in BOOKS[::40]:
            for programs in (((TAKE,), (PUT,)), ((WISH, PUT), (TAKE,), (PUT,))):
                for standing, behind in woven(book, programs).items():
                    if isinstance(harm(standing), tuple):
                        self.assertEqual({move[1] for move in moves(book, standing)} - {"away"}, set())

    def test_behind_an_away_it_may_rest_no_more(self):
        programs = ((("wish", 1), PUT), (TAKE,))
        asleep = led(notify_one(), programs, ((0, "on"),) * 4 + ((1, "on"),) * 4)
        self.assertTrue(rests(asleep))
        self.assertFalse(rests(moved(notify_one(), asleep, (0, "away"))))


if __name__ == "__main__":
    unittest.main()
