import unittest

from leftasleep.errors import SleepError
from leftasleep.good import is_good
from leftasleep.halllogs import hall_behind, log_text, read_log
from leftasleep.halls import Hall
from leftasleep.knownbooks import careless, hand_off, notify_one
from leftasleep.moving import moved, moves
from leftasleep.programs import is_of, sorts
from leftasleep.runs import rests
from leftasleep.standings import start
from leftasleep.ways import fed, on_way, uncalled
from hallsteps import NAMES, gone_along, make, shown, some_edit
from samples import BOOK_NAMES, BOOKS, Row

SMALL = (("take", 1), ("take", 1), ("take", 2), ("wish", 1), ("wish", 2), ("put", 1), ("put", 2), ("put", 3))
DEEDS = {
    ("like", "staying"): (("take", 1), ("put", 1), ("put", 2)),
    ("like", "leaving"): (("take", 1), ("wish", 1), ("put", 1), ("put", 2)),
    ("any", "staying"): (("take", 1), ("take", 2), ("take", 4), ("put", 1), ("put", 2), ("put", 4)),
    ("any", "leaving"): (("take", 1), ("take", 2), ("wish", 3), ("wish", 1), ("put", 1), ("put", 2), ("put", 4)),
}


class RunsOfHallsTest(unittest.TestCase):
    """[I4]: where the book was never turned the standing is the one behind a run."""

    def test_the_standing_is_behind_the_moves_that_were_made(self):
        numbers, most = Row(51), 0
        for book in BOOKS[::13]:
            hall, made = Hall(book), []
            for _ in range(60):
                edit = some_edit(hall, numbers, SMALL, turns=False)
                told = make(hall, edit)
                if edit[0] == "go" and told is None:
                    made.append(edit[1])
                elif edit[0] == "rest":
                    made.extend(told)
            standing = start(tuple(tuple(edit[2] for edit in hall.log() if edit[:2] == ("ask", name))
                                   for name in hall.names()))
            hands = {name: hand for hand, name in enumerate(hall.names())}
            for name, word, *called in made:
                standing = moved(book, standing, (hands[name], word) + tuple(hands[other] for other in called))
            self.assertEqual(hall.standing(), standing)
            most = max(most, len(made))
        self.assertGreater(most, 30)

    def test_who_is_on_the_row(self):
        numbers = Row(52)
        for book in BOOKS[::19]:
            _, row, states = gone_along(book, numbers, 60, SMALL, turns=False).standing()
            waiting = [hand for hand, (_, phase, mark) in enumerate(states)
                       if phase in ("noted", "lying", "asleep") and mark == "no"]
            self.assertEqual(sorted(row), waiting)


class MainForHallsTest(unittest.TestCase):
    """[I4]: by books that are good for all that is asked there is never trouble."""

    def make_some(self, book, sort, numbers, good):
        """A hall behind some edits; its book is turned where the new one is good, too. Trouble is looked for."""
        hall, turns = Hall(book), 0
        for name in NAMES[:2 + numbers.below(4)]:
            hall.come(name)
        for _ in range(50):
            edit = some_edit(hall, numbers, DEEDS[sort])
            if edit[0] == "turn":
                place = BOOK_NAMES.index(edit[1])
                if hall.book()[:place] + (edit[2],) + hall.book()[place + 1:] not in good:
                    continue
            turns += not isinstance(make(hall, edit), SleepError) and edit[0] == "turn"
            self.assertIsNone(hall.trouble(), (hall.book(), hall.log()))
            standing = hall.standing()
            self.assertTrue(fed(standing) == () or on_way(standing) != ())
            self.assertLessEqual(set(uncalled(standing)), set(standing[1]))
        return hall, turns

    def test_whoever_comes_and_asks_amid_all(self):
        numbers, turns = Row(53), 0
        for sort in sorts():
            good = {book for book in BOOKS if is_good(book, sort)}
            for book in sorted(good):
                hall, many = self.make_some(book, sort, numbers, good)
                turns += many
                asked = tuple(edit[2] for edit in hall.log() if edit[0] == "ask")
                self.assertTrue(is_of((asked,), sort))
                if len(hall.log()) < 100:
                    self.assertLess(len(hall.rest()), 400)
                    self.assertTrue(rests(hall.standing()))
                    self.assertIsNone(hall.trouble())
        self.assertGreater(turns, 30)

    def test_other_books_come_to_trouble(self):
        numbers, found = Row(54), set()
        for _ in range(150):
            for book in (careless(), notify_one(), hand_off()):
                hall = Hall(book)
                for name in NAMES[:4]:
                    hall.come(name)
                for _ in range(30):
                    make(hall, some_edit(hall, numbers, DEEDS["any", "leaving"], turns=False))
                    if hall.trouble() is not None:
                        found.add((book, "overdrawn" if hall.trouble() == "overdrawn" else "asleep"))
        self.assertEqual(found, {(careless(), "overdrawn"), (careless(), "asleep"), (notify_one(), "asleep")})


class LogsOfHallsTest(unittest.TestCase):
    """[I4]: halls behind their logs, and undone to the beginning."""

    def test_the_hall_behind_a_log_is_the_hall(self):
        numbers = Row(55)
        for book in BOOKS[::17]:
            hall = gone_along(book, numbers, 50, SMALL)
            again = hall_behind(book, hall.log())
            self.assertEqual(shown(again), shown(hall))
            self.assertEqual(read_log(log_text(hall.log())), hall.log())
            while hall.log():
                hall.undo()
                again.undo()
                self.assertEqual(shown(again), shown(hall))
            self.assertEqual(shown(hall), (book, (), (0, (), ()), (), (), None))

    def test_the_log_of_a_hall_whose_book_was_turned(self):
        numbers, turns = Row(56), 0
        for book in BOOKS[::29]:
            hall = gone_along(book, numbers, 40, (("put", 1), ("take", 1)))
            turns += hall.book() != book
            self.assertEqual(hall_behind(book, hall.log()), hall)
        self.assertGreater(turns, 20)

    def test_moves_can_be_gone_on_behind_a_log(self):
        numbers = Row(57)
        for book in BOOKS[::61]:
            hall = gone_along(book, numbers, 30, SMALL)
            again = hall_behind(book, hall.log())
            self.assertEqual(moves(again.book(), again.standing()), moves(hall.book(), hall.standing()))
            for _ in range(10):
                edit = some_edit(hall, numbers, SMALL)
                one, other = make(hall, edit), make(again, edit)
                self.assertTrue(one == other or (type(one), vars(one)) == (type(other), vars(other)))
            self.assertEqual(again, hall)


if __name__ == "__main__":
    unittest.main()
