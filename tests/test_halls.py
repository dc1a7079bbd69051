import copy
import itertools
import time
import unittest

from leftasleep.books import book_error, turned
from leftasleep.errors import (
    BadBook, BadMove, NothingToUndo, Refused, SleepError, TooMany, TooManyEdits, Unfit)
from leftasleep.halls import Hall
from leftasleep.knownbooks import careless, hand_off, notify_all, notify_one
from leftasleep.moving import moved, moves
from leftasleep.runs import harm, rests
from leftasleep.standings import standing_text
from hallsteps import NAMES, gone_along, hall_of, make, shown, some_edit
from samples import BOOK_NAMES, BOOK_WORDS, BOOKS, DEEDS, Row
from values import nested, odd_values

TAKE, TAKE_TWO, WISH, PUT, PUT_TWO = ("take", 1), ("take", 2), ("wish", 1), ("put", 1), ("put", 2)
LOST = turned(notify_one(), "call", "lost")
ALWAYS = turned(notify_one(), "pass", "always")
NO_NAMES = ("", "Ann", "ANN", "a1", "ann ", " ann", "a b", "ann\n", "a-b", "a_b", "abcdefghijklm", "a" * 20000, "1", "?")
NO_DEEDS = (("take", 0), ("take", 5), ("take", True), ("take", "1"), ("give", 1), ["put", 1], ("put",), ("put", 1, 1),
            (("put", 1),), "put 1", ("Put", 1), (1, "put"))


def any_values():
    """Values of all kinds, also such as this package returned."""
    return odd_values() + [notify_one(), hall_of(notify_one(), (TAKE,)), ("ann", "on"), [("ann", "on")], DEEDS,
                           nested(20, "ann"), hall_of(LOST, (TAKE,)).standing(), moves, Unfit()]


class HallTest(unittest.TestCase):
    """Base of the tests of halls."""

    def assert_refuses(self, hall, edit, made, **fields):
        """The hall raises an error of this class with these fields, and nothing changes."""
        before, given = shown(hall), copy.copy(edit)
        with self.assertRaises(SleepError) as held:
            getattr(hall, edit[0])(*edit[1:])
        self.assertIs(type(held.exception), made, edit)
        self.assertEqual(vars(held.exception), fields, edit)
        self.assertEqual(shown(hall), before)
        self.assertEqual(edit, given)

    def assert_makes(self, hall, *edits):
        """The hall makes the edits, returns nothing but by rest, and puts them behind its log."""
        for edit in edits:
            log = hall.log()
            told = getattr(hall, edit[0])(*edit[1:])
            if edit[0] != "rest":
                self.assertIsNone(told)
            self.assertEqual(hall.log(), log + (edit,))


class NewHallTest(HallTest):
    """[I2]: a new hall."""

    def test_each_book(self):
        for book in BOOKS[::17]:
            self.assertEqual(shown(Hall(book)), (book, (), (0, (), ()), (), (), None))
        self.assertEqual(shown(Hall(book=notify_one())), (notify_one(), (), (0, (), ()), (), (), None))

    def test_what_is_no_book(self):
        wrong = any_values() + [notify_one()[:9], list(notify_one()), notify_one() + ("first",),
                                notify_one()[:4] + ("tried", "x") + notify_one()[6:]]
        for value in wrong:
            if value == notify_one():
                continue
            with self.assertRaises(BadBook) as held:
                Hall(value)
            self.assertEqual(held.exception.error, book_error(value))
        self.assertEqual(book_error(wrong[-1]), ("entry", "woken"))

    def test_a_hall_without_hands_rests(self):
        hall = Hall(careless())
        self.assertEqual((hall.rest(), hall.log(), hall.standing()), ((), (("rest",),), (0, (), ())))


class ComeTest(HallTest):
    """[I2]: come."""

    def test_hands_come_free_and_without_deeds(self):
        hall = Hall(notify_one())
        for many, name in enumerate(NAMES):
            self.assert_makes(hall, ("come", name))
            self.assertEqual(hall.names(), NAMES[:many + 1])
            self.assertEqual(hall.standing(), (0, (), (((), "free", "no"),) * (many + 1)))
        self.assertEqual((hall.can(), hall.trouble()), ((), None))

    def test_names(self):
        for name in ("a", "z", "abcdefghijkl", "mnopqrstuvwx", "yz", "on", "none"):
            self.assert_makes(Hall(notify_one()), ("come", name))
        for value in list(NO_NAMES) + any_values():
            self.assert_refuses(Hall(notify_one()), ("come", value), Unfit)

    def test_somebody_has_the_name(self):
        hall = hall_of(notify_one(), (TAKE,), (PUT,))
        self.assert_refuses(hall, ("come", "ann"), Refused, word="known")
        self.assert_refuses(hall, ("come", "bob"), Refused, word="known")
        self.assert_makes(hall, ("come", "an"))

    def test_a_sixth_name(self):
        hall = hall_of(notify_one(), (), (), (), (), ())
        self.assert_refuses(hall, ("come", "eve"), TooMany, limit=5)
        self.assert_refuses(hall, ("come", "ann"), Refused, word="known")
        self.assert_refuses(hall, ("come", "Eve"), Unfit)

    def test_they_come_amid_all(self):
        hall = hall_of(notify_one(), (TAKE,))
        hall.rest()
        self.assert_makes(hall, ("come", "bob"), ("ask", "bob", PUT))
        self.assertEqual(hall.standing(), (0, (0,), (((TAKE,), "asleep", "no"), ((PUT,), "free", "no"))))


class AskTest(HallTest):
    """[I2]: ask."""

    def test_each_deed_is_put_behind_the_others(self):
        hall = hall_of(notify_one(), (), ())
        for place, deed in enumerate(DEEDS[:8]):
            self.assert_makes(hall, ("ask", "bob", deed))
            self.assertEqual(hall.standing(), (0, (), (((), "free", "no"), (DEEDS[:place + 1], "free", "no"))))
        for deed in DEEDS:
            self.assert_makes(hall_of(notify_one(), ()), ("ask", "ann", deed))

    def test_a_ninth_deed(self):
        hall = hall_of(notify_one(), (PUT,) * 8, ())
        self.assert_refuses(hall, ("ask", "ann", TAKE), TooMany, limit=8)
        self.assert_refuses(hall, ("ask", "ann", ("take", 5)), Unfit)
        hall.go(("ann", "on"))
        self.assert_refuses(hall, ("ask", "ann", TAKE), TooMany, limit=8)
        hall.go(("ann", "call"))
        self.assert_makes(hall, ("ask", "ann", TAKE), ("ask", "bob", TAKE))

    def test_while_it_waits_and_while_it_passes(self):
        hall = hall_of(notify_one(), (TAKE,), (TAKE,), (PUT_TWO,))
        hall.go(("ann", "on"))
        for phase in ("late", "noted", "lying", "asleep"):
            self.assertEqual(hall.standing()[2][0][1], phase)
            self.assert_makes(hall, ("ask", "ann", PUT))
            hall.undo()
            if phase != "asleep":
                hall.go(("ann", "on"))
        for move in [("bob", "on")] * 4 + [("cy", "on"), ("cy", "call", "ann"), ("ann", "on")]:
            hall.go(move)
        self.assertEqual(hall.standing()[2][0], ((TAKE,), "passing", "no"))
        self.assert_makes(hall, ("ask", "ann", PUT))
        hall.go(("ann", "call", "bob"))
        self.assertEqual(hall.standing()[2][0], ((PUT,), "free", "no"))

    def test_what_is_no_name_or_no_deed(self):
        hall = hall_of(notify_one(), (TAKE,))
        for value in list(NO_NAMES) + any_values():
            self.assert_refuses(hall, ("ask", value, TAKE), Unfit)
            self.assert_refuses(hall, ("ask", value, value), Unfit)
        for value in list(NO_DEEDS) + [value for value in any_values()]:
            self.assert_refuses(hall, ("ask", "ann", value), Unfit)
            self.assert_refuses(hall, ("ask", "eve", value), Unfit)

    def test_nobody_has_the_name(self):
        self.assert_refuses(hall_of(notify_one(), (TAKE,)), ("ask", "eve", TAKE), Refused, word="unknown")
        self.assert_refuses(Hall(notify_one()), ("ask", "ann", TAKE), Refused, word="unknown")
        self.assert_refuses(hall_of(notify_one(), (TAKE,)), ("ask", "anna", TAKE), Refused, word="unknown")


class GoTest(HallTest):
    """[I2]: go and can."""

    def test_all_moves_that_can_be_made_and_no_others(self):
        numbers = Row(31)
        for book in BOOKS[::71]:
            hall = gone_along(book, numbers, 30)
            names = hall.names()
            told = moves(hall.book(), hall.standing())
            self.assertEqual(hall.can(), tuple(
                (names[move[0]], move[1]) + tuple(names[hand] for hand in move[2:]) for move in told))
            built = [(name, word) for name in names for word in ("on", "away")] + [
                (name, "call") + called for name in names for many in range(len(names) + 1)
                for called in itertools.permutations(names, many)]
            for move in built:
                if move in hall.can():
                    twin = hall.twin()
                    self.assert_makes(twin, ("go", move))
                    behind = moved(hall.book(), hall.standing(), told[hall.can().index(move)])
                    self.assertEqual(twin.standing(), behind)
                else:
                    self.assert_refuses(hall, ("go", move), BadMove, error="closed")

    def test_moves_stand_in_the_order_of_moves(self):
        hall = Hall(notify_one())
        for name in ("zoe", "mia", "ann"):
            hall.come(name)
            hall.ask(name, PUT)
        self.assertEqual(hall.can(), (("zoe", "on"), ("mia", "on"), ("ann", "on")))

    def test_what_is_no_move(self):
        hall = hall_of(notify_one(), (TAKE,), (PUT,))
        wrong = [(), ("ann",), ("on",), ("on", "ann"), ("eve", "on"), ("Ann", "on"), ("ann", "On"), ("ann", "sleep"),
                 ("ann", "on", "bob"), ("ann", "on", None), ("ann", "away", "ann"), ["ann", "on"], "ann on", ("ann", ""),
                 ("bob", "call", "eve"), ("bob", "call", "ann", "ann"), ("bob", "call", "bob", "ann", "bob"),
                 ("bob", "call", ("ann",)), ("bob", "call", ["ann"]), ("bob", "call", ""), (0, "on"), (1, "call", 0),
                 ("bob", "call", 0), (0, "call", "ann"), (False, "on"), (None, "on"), ("ann", None), ("ann", ["on"]),
                 (("ann",), "on"), (("ann", "on"),), ("ann", "call", "ann", "bob", "cy"), ("bob", "call", None)]
        for move in wrong:
            self.assert_refuses(hall, ("go", move), BadMove, error="form")
        for value in any_values():
            if value == ("ann", "on"):
                continue
            self.assert_refuses(hall, ("go", value), BadMove, error="form")
            self.assert_refuses(hall, ("go", (value, "on")), BadMove, error="form")
            self.assert_refuses(hall, ("go", ("ann", value)), BadMove, error="form")
            self.assert_refuses(hall, ("go", ("bob", "call", value)), BadMove, error="form")

    def test_nobody_has_come(self):
        for move in (("ann", "on"), ("ann", "call"), (), (0, "on")):
            self.assert_refuses(Hall(notify_one()), ("go", move), BadMove, error="form")

    def test_moves_that_are_closed(self):
        hall = hall_of(notify_one(), (TAKE,), (PUT,))
        for move in (("ann", "away"), ("ann", "call"), ("bob", "call"), ("bob", "call", "ann"), ("bob", "call", "bob"),
                     ("bob", "call", "ann", "bob")):
            self.assert_refuses(hall, ("go", move), BadMove, error="closed")

    def test_names_that_are_words(self):
        hall = Hall(notify_one())
        for name in ("call", "on", "away"):
            hall.come(name)
        self.assert_makes(hall, ("ask", "call", TAKE), ("ask", "on", PUT), ("ask", "away", WISH))
        self.assertEqual(hall.can(), (("call", "on"), ("on", "on"), ("away", "on")))
        self.assert_makes(hall, *[("go", ("call", "on"))] * 4, ("go", ("on", "on")), ("go", ("on", "call", "call")))
        self.assert_refuses(hall, ("go", ("on", "call", "call")), BadMove, error="closed")
        self.assert_refuses(hall, ("go", ("call", "call", "call", "call")), BadMove, error="form")
        self.assert_makes(hall, ("go", ("call", "on")), ("go", ("away", "on")), ("go", ("away", "on")),
                          ("go", ("away", "away")))


class TroubleTest(HallTest):
    """[I2]: trouble."""

    def test_names_in_the_order_of_their_hands(self):
        hall = Hall(notify_one())
        for name, deed in (("zoe", TAKE_TWO), ("mia", TAKE), ("ann", TAKE), ("bob", PUT)):
            hall.come(name)
            hall.ask(name, deed)
        hall.rest()
        self.assertEqual(hall.trouble(), ("asleep", ("mia", "ann")))

    def test_each_harm(self):
        hall = hall_of(careless(), (TAKE,), (PUT,))
        for move, told in ((("ann", "on"), None), (("ann", "on"), None), (("bob", "on"), None),
                           (("bob", "call", "ann"), None), (("ann", "on"), "overdrawn"), (("bob", "on"), None)):
            hall.go(move)
            self.assertEqual(hall.trouble(), told)

    def test_given_and_left_asleep(self):
        hall = hall_of(turned(hand_off(), "call", "lost"), (TAKE,), (PUT,))
        for move in [("ann", "on")] * 3 + [("bob", "on"), ("bob", "call", "ann")]:
            hall.go(move)
        self.assertIsNone(hall.trouble())
        hall.go(("ann", "on"))
        self.assertEqual(hall.trouble(), ("asleep", ("ann",)))


class RestTest(HallTest):
    """[I2]: rest."""

    def told(self, hall):
        """The moves that rest makes: always the first one that is no "away"."""
        twin, told = hall.twin(), ()
        standing = twin.standing()
        while len(told) < 400 and not rests(standing):
            move = next(move for move in moves(hall.book(), standing) if move[1] != "away")
            standing = moved(hall.book(), standing, move)
            told += ((hall.names()[move[0]], move[1]) + tuple(hall.names()[hand] for hand in move[2:]),)
        return told, standing

    def test_as_told_of_many_halls(self):
        numbers = Row(32)
        for book in BOOKS[::23]:
            hall = gone_along(book, numbers, 25)
            told, standing = self.told(hall)
            log = hall.log()
            self.assertEqual(hall.rest(), told)
            self.assertEqual((hall.standing(), hall.log()), (standing, log + (("rest",),)))

    def test_four_hundred_moves(self):
        hall = hall_of(ALWAYS, (TAKE_TWO,), (TAKE_TWO,), (PUT,))
        told, standing = self.told(hall)
        self.assertEqual((len(told), rests(standing)), (400, False))
        self.assertEqual((hall.rest(), hall.standing()), (told, standing))
        self.assertEqual(len(hall.rest()), 400)
        self.assertEqual(hall.log()[-2:], (("rest",),) * 2)

    def test_wishes_stay(self):
        hall = hall_of(notify_one(), (WISH,))
        self.assertEqual(hall.rest(), (("ann", "on"),) * 4)
        self.assertEqual((hall.rest(), hall.can()), ((), (("ann", "away"),)))

    def test_what_rests_already_stands_in_the_log(self):
        hall = hall_of(notify_one(), ())
        self.assertEqual((hall.rest(), hall.rest(), hall.log()), ((), (), (("come", "ann"), ("rest",), ("rest",))))


class TurnTest(HallTest):
    """[I2]: turn."""

    def test_each_entry_and_word(self):
        for name, words in zip(BOOK_NAMES, BOOK_WORDS):
            for word in words:
                for book in (notify_one(), careless()):
                    hall = hall_of(book, (TAKE,))
                    self.assert_makes(hall, ("turn", name, word))
                    self.assertEqual(hall.book(), turned(book, name, word))

    def test_what_is_no_entry_or_no_word(self):
        hall = hall_of(notify_one(), (TAKE,))
        for entry, word in (("notes", "ahead"), ("note", "kept"), ("many", "first"), ("ahead", "note"), ("", ""),
                            ("order", "last"), ("put", "any"), ("Note", "ahead"), ("note", "Ahead"), ("note ", "ahead")):
            self.assert_refuses(hall, ("turn", entry, word), Unfit)
        for value in any_values():
            self.assert_refuses(hall, ("turn", value, "ahead"), Unfit)
            self.assert_refuses(hall, ("turn", "note", value), Unfit)
            self.assert_refuses(hall, ("turn", value, value), Unfit)

    def test_while_somebody_waits(self):
        hall = hall_of(notify_one(), (TAKE,), (TAKE,), (PUT_TWO,))
        self.assert_makes(hall, ("turn", "fails", "front"))
        for move in [("ann", "on")] * 4 + [("bob", "on")] * 4 + [
                ("cy", "on"), ("cy", "call", "ann"), ("ann", "on"), ("ann", "call", "bob")]:
            hall.go(move)
            self.assert_refuses(hall, ("turn", "fails", "back"), Refused, word="waiting")
            self.assert_refuses(hall, ("turn", "fails", "front"), Refused, word="waiting")
            self.assert_refuses(hall, ("turn", "fails", "left"), Unfit)
        hall.go(("bob", "on"))
        self.assert_makes(hall, ("turn", "fails", "back"))

    def test_while_deeds_are_left(self):
        hall = hall_of(notify_one(), (PUT, TAKE), (TAKE,))
        self.assert_makes(hall, ("turn", "put", "last"), ("go", ("ann", "on")))
        self.assert_refuses(hall, ("turn", "put", "first"), Refused, word="waiting")
        hall.go(("ann", "call"))
        self.assertEqual(hall.standing()[2][0][1], "storing")
        self.assert_refuses(hall, ("turn", "put", "first"), Refused, word="waiting")
        hall.go(("ann", "on"))
        self.assert_makes(hall, ("turn", "put", "first"))

    def test_while_tokens_are_below_nothing(self):
        hall = hall_of(turned(notify_one(), "woken", "takes"), (TAKE,), (PUT,), (TAKE,))
        for move in [("ann", "on")] * 4 + [("bob", "on"), ("bob", "call", "ann"), ("cy", "on"), ("ann", "on")]:
            hall.go(move)
        self.assertEqual(hall.standing(), (-1, (), (((), "free", "no"),) * 3))
        self.assertEqual(hall.trouble(), "overdrawn")
        self.assert_refuses(hall, ("turn", "woken", "tries"), Refused, word="waiting")
        self.assert_refuses(hall, ("turn", "woken", "gives"), Unfit)
        hall.ask("bob", PUT)
        hall.rest()
        self.assert_makes(hall, ("turn", "woken", "tries"))

    def test_the_new_book_counts(self):
        hall = hall_of(notify_one(), (TAKE,), (PUT,))
        self.assert_makes(hall, ("turn", "note", "behind"), ("go", ("ann", "on")), ("go", ("ann", "on")))
        self.assertEqual(hall.standing()[2][0][1], "asleep")

    def test_nothing_changes_and_still_it_is_an_edit(self):
        hall = Hall(notify_one())
        self.assert_makes(hall, ("turn", "note", "ahead"), ("turn", "note", "ahead"))
        self.assertEqual((hall.book(), len(hall.log())), (notify_one(), 2))


class UndoTest(HallTest):
    """[I2], [I4]: undo."""

    def test_each_kind_of_edit(self):
        hall = hall_of(notify_one(), (TAKE,), (PUT,))
        for edit in (("come", "cy"), ("ask", "ann", PUT), ("go", ("ann", "on")), ("rest",), ("turn", "many", "all"),
                     ("turn", "note", "ahead")):
            before = shown(hall)
            self.assert_makes(hall, edit)
            self.assertIsNone(hall.undo())
            self.assertEqual(shown(hall), before)

    def test_a_rest_of_many_moves(self):
        hall = hall_of(ALWAYS, (TAKE_TWO,), (TAKE_TWO,), (PUT,))
        before = shown(hall)
        self.assertEqual(len(hall.rest()), 400)
        hall.undo()
        self.assertEqual(shown(hall), before)

    def test_to_the_beginning_and_beyond(self):
        numbers = Row(33)
        for book in BOOKS[::57]:
            hall, past = Hall(book), []
            while len(past) < 40:
                before = shown(hall)
                if not isinstance(make(hall, some_edit(hall, numbers)), SleepError):
                    past.append(before)
            while past:
                hall.undo()
                self.assertEqual(shown(hall), past.pop())
            for _ in range(2):
                self.assert_refuses(hall, ("undo",), NothingToUndo)
            self.assertEqual(hall, Hall(book))
            self.assert_makes(hall, ("come", "ann"))

    def test_going_on_behind_an_undo(self):
        hall = hall_of(notify_one(), (TAKE,), (PUT,))
        hall.rest()
        hall.undo()
        self.assert_makes(hall, ("go", ("bob", "on")), ("rest",))
        hall.undo()
        hall.undo()
        self.assertEqual(shown(hall), shown(hall_of(notify_one(), (TAKE,), (PUT,))))

    def test_what_is_refused_is_not_undone(self):
        hall = hall_of(notify_one(), (TAKE,))
        self.assertRaises(Refused, hall.come, "ann")
        hall.undo()
        self.assertEqual(hall.log(), (("come", "ann"),))


class FullTest(HallTest):
    """[I2]: a hundred edits and one more."""

    def full(self, book, *programs):
        hall = hall_of(book, *programs)
        while len(hall.log()) < 100:
            self.assert_makes(hall, ("rest",))
        return hall

    def test_each_edit_is_one_too_many(self):
        hall = self.full(notify_one(), (WISH,), ())
        for edit in (("come", "cy"), ("ask", "ann", PUT), ("go", ("ann", "away")), ("rest",)):
            self.assert_refuses(hall, edit, TooManyEdits)
        self.assert_refuses(self.full(notify_one(), ()), ("turn", "many", "all"), TooManyEdits)

    def test_it_comes_behind_all_other_errors(self):
        hall = self.full(notify_one(), (WISH,) * 8, (), (), (), ())
        for edit, made, fields in (
                (("come", "Eve"), Unfit, {}), (("come", "ann"), Refused, {"word": "known"}),
                (("come", "eve"), TooMany, {"limit": 5}), (("ask", "ann", ("put", 5)), Unfit, {}),
                (("ask", "eve", PUT), Refused, {"word": "unknown"}), (("ask", "ann", PUT), TooMany, {"limit": 8}),
                (("go", ("eve", "on")), BadMove, {"error": "form"}), (("go", ("ann", "on")), BadMove, {"error": "closed"}),
                (("turn", "many", "some"), Unfit, {}), (("turn", "many", "all"), Refused, {"word": "waiting"})):
            self.assert_refuses(hall, edit, made, **fields)

    def test_undo_makes_room(self):
        hall = self.full(notify_one(), (WISH,), ())
        hall.undo()
        self.assert_makes(hall, ("go", ("ann", "away")))
        self.assert_refuses(hall, ("come", "cy"), TooManyEdits)

    def test_a_twin_is_full_too(self):
        hall = self.full(notify_one(), (WISH,))
        self.assert_refuses(hall.twin(), ("rest",), TooManyEdits)


class TwinTest(HallTest):
    """[I2], [I4]: twin, and when halls are equal."""

    def test_twins_go_their_own_ways(self):
        numbers = Row(34)
        for book in BOOKS[::57]:
            hall = gone_along(book, numbers, 20)
            twin = hall.twin()
            self.assertTrue(twin == hall and not twin != hall)
            self.assertEqual(shown(twin), shown(hall))
            before = shown(hall)
            for _ in range(10):
                make(twin, some_edit(twin, numbers))
            self.assertEqual(shown(hall), before)
            other, before = hall.twin(), shown(twin)
            make(hall, ("rest",))
            hall.undo()
            hall.undo()
            self.assertEqual(shown(twin), before)
            self.assertEqual(len(hall.log()) + 1, len(other.log()))

    def test_what_can_be_undone_too(self):
        hall = hall_of(notify_one(), (TAKE,), (PUT,))
        hall.rest()
        twin = hall.twin()
        for _ in range(5):
            hall.undo()
            self.assertNotEqual(twin, hall)
        for _ in range(5):
            twin.undo()
        self.assertEqual(shown(twin), shown(hall))
        self.assertEqual(shown(twin), shown(Hall(notify_one())))
        self.assertRaises(NothingToUndo, twin.undo)

    def test_halls_are_equal_with_unlike_logs(self):
        hall, other = hall_of(notify_one(), (PUT,)), Hall(notify_all())
        other.turn("many", "one"), other.turn("pass", "left"), other.turn("quits", "passes")
        other.come("ann"), other.rest(), other.ask("ann", PUT)
        self.assertEqual(hall, other)
        self.assertNotEqual(hall.log(), other.log())

    def test_books_names_and_standings_count(self):
        hall = hall_of(notify_one(), (PUT,))
        self.assertNotEqual(hall, hall_of(notify_all(), (PUT,)))
        self.assertNotEqual(hall, hall_of(notify_one(), (TAKE,)))
        self.assertNotEqual(hall, hall_of(notify_one(), (PUT,), ()))
        other = Hall(notify_one())
        other.come("bob"), other.ask("bob", PUT)
        self.assertEqual(hall.standing(), other.standing())
        self.assertNotEqual(hall, other)
        self.assertFalse(hall == other)

    def test_a_hall_equals_nothing_else(self):
        hall = hall_of(notify_one(), (PUT,))
        for value in odd_values() + [shown(hall), hall.standing(), hall.log(), hall.book(), Hall]:
            self.assertFalse(hall == value)
            self.assertTrue(hall != value)
            self.assertFalse(value == hall)


class ChangeTest(HallTest):
    """[A3], [I4]: what is refused changes nothing, and what was told stays as it is."""

    def test_halls_refuse_without_change(self):
        numbers = Row(35)
        for book in BOOKS[::31]:
            hall = Hall(book)
            for _ in range(60):
                edit, before, twin = some_edit(hall, numbers), shown(hall), hall.twin()
                told, again = make(hall, edit), make(twin, edit)
                if isinstance(told, SleepError):
                    self.assertEqual(shown(hall), before)
                    self.assertEqual((type(told), vars(told)), (type(again), vars(again)))
                else:
                    self.assertEqual(hall.log(), before[3] + (edit,))
                    self.assertEqual(told, again)

    def test_what_was_told_stays(self):
        numbers = Row(36)
        for book in BOOKS[::101]:
            hall, told = Hall(book), []
            for _ in range(60):
                make(hall, some_edit(hall, numbers))
                told.append((shown(hall), copy.deepcopy(shown(hall))))
            for one, other in told:
                self.assertEqual(one, other)

    def test_looking_changes_nothing(self):
        hall = hall_of(notify_one(), (TAKE,), (PUT,))
        before = shown(hall)
        for _ in range(3):
            self.assertEqual(shown(hall), before)
        self.assertEqual([type(one) for one in before[:5]], [tuple] * 5)

    def test_arguments_by_name(self):
        hall = Hall(book=notify_one())
        hall.come(name="ann"), hall.ask(deed=WISH, name="ann"), hall.go(move=("ann", "on"))
        self.assertEqual(hall.log(), (("come", "ann"), ("ask", "ann", WISH), ("go", ("ann", "on"))))
        hall.undo()
        hall.turn(word="all", entry="many")
        self.assertEqual(hall.log()[-1], ("turn", "many", "all"))

    def test_halls_are_handed_in_as_values(self):
        hall = hall_of(notify_one(), (TAKE,))
        for edit, made in ((("come", hall), Unfit), (("ask", hall, PUT), Unfit), (("ask", "ann", hall), Unfit),
                           (("go", hall), BadMove), (("go", (hall, "on")), BadMove), (("go", ("ann", hall)), BadMove),
                           (("turn", hall, hall), Unfit)):
            self.assertIsInstance(make(hall, edit), made)
        self.assertRaises(BadBook, Hall, hall)


class TimeTest(HallTest):
    """No call takes long, also behind a hundred edits."""

    def test_rest_undo_and_twin(self):
        hall = hall_of(turned(turned(ALWAYS, "many", "all"), "order", "any"), (TAKE_TWO,) * 8, (TAKE_TWO,) * 8, (PUT,),
                       (TAKE_TWO,) * 8, (TAKE_TWO,) * 8)
        while len(hall.log()) < 99:
            hall.rest()
        for call in (hall.rest, hall.twin, hall.can, hall.trouble, hall.undo):
            begun = time.process_time()
            call()
            self.assertLess(time.process_time() - begun, 0.7)
        begun = time.process_time()
        for _ in range(99):
            hall.undo()
        self.assertLess(time.process_time() - begun, 0.7)

    def test_long_values(self):
        hall = hall_of(notify_one(), (TAKE,), (PUT,))
        begun = time.process_time()
        for value in (("ann", "call") + ("bob",) * 4000, ("ann",) * 4000, "a" * 20000, ((("ann", "on"),) * 1000,)):
            for edit in (("go", value), ("come", value), ("ask", value, value), ("turn", value, value)):
                self.assertIsInstance(make(hall, edit), SleepError)
        self.assertLess(time.process_time() - begun, 0.7)


class StandingsTest(HallTest):
    """[I1]: standings of halls may be handed in wherever a standing is."""

    def test_the_harm_that_is_told(self):
        numbers = Row(37)
        for book in BOOKS[::41]:
            hall = gone_along(book, numbers, 40)
            told = harm(hall.standing())
            if isinstance(told, tuple):
                told = (told[0], tuple(hall.names()[hand] for hand in told[1]))
            self.assertEqual(hall.trouble(), told)
            self.assertTrue(standing_text(hall.standing()).startswith("{} tokens".format(hall.standing()[0])))

    def test_without_hands(self):
        standing = Hall(notify_one()).standing()
        self.assertEqual((standing_text(standing), rests(standing), harm(standing)), ("0 tokens; row", True, None))
        self.assertEqual(moves(notify_one(), standing), ())


if __name__ == "__main__":
    unittest.main()
