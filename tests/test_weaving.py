import itertools
import time
import unittest

from leftasleep.books import turned
from leftasleep.errors import TooMany
from leftasleep.good import is_good
from leftasleep.knownbooks import careless, hand_off, notify_all, notify_one
from leftasleep.losing import losing
from leftasleep.moving import moved, moves
from leftasleep.programs import is_of, sort_of, sorts
from leftasleep.runs import harm, led, rests, run_error
from leftasleep.standings import start
from leftasleep.weaving import ends, harms, many_come, shortest_loss, some_round
from samples import BOOKS, Row, books_with, mixed_programs, small_programs
from weavings import has_round, woven

DEFS = (many_come, harms, ends, shortest_loss, some_round)
TAKE, TAKE_TWO, WISH, WISH_TWO, PUT, PUT_TWO = (
    ("take", 1), ("take", 2), ("wish", 1), ("wish", 2), ("put", 1), ("put", 2))
PAIR, GREEDY = ((TAKE,), (PUT,)), ((TAKE_TWO,), (TAKE_TWO,), (PUT,))
ALWAYS = turned(notify_all(), "pass", "always")
# Few standings come of these, so they are gone through by many books.
SMALL = (
    PAIR, GREEDY, ((WISH,), (PUT,)), ((TAKE,), (TAKE,), (PUT,)), ((TAKE_TWO,), (TAKE,), (PUT,)), ((TAKE,), (PUT, TAKE)),
    ((TAKE, PUT), (PUT,)), ((WISH_TWO,), (PUT_TWO,)), ((WISH,), (TAKE,), (PUT,)), ((PUT, TAKE), (TAKE_TWO, PUT)),
    ((), (WISH, PUT), ()), ((TAKE,),), ((PUT, WISH, PUT, TAKE_TWO),), ((PUT,), (PUT, PUT_TWO), (PUT,)), ((), ()),
)
# Books, programs, and how many standings come of them: 500 just go, 501 are too many.
FULL = (
    (("ahead", "lost", "last", "all", "tries", "front", "left", "passes", "free", "any"),
     ((WISH,), (WISH, PUT), (PUT,)), 500),
    (("ahead", "kept", "last", "each", "takes", "front", "left", "passes", "free", "first"),
     ((WISH,), (WISH,), (), (PUT, WISH)), 500),
    (("ahead", "kept", "first", "each", "tries", "front", "left", "drops", "free", "any"),
     ((WISH_TWO, PUT_TWO), (TAKE,), (WISH,)), 500),
    (("ahead", "kept", "first", "one", "takes", "back", "left", "drops", "free", "any"),
     ((TAKE_TWO,), (PUT,), (WISH, TAKE, WISH), ()), 501),
    (("ahead", "lost", "first", "each", "given", "back", "never", "drops", "free", "first"),
     ((WISH,), (PUT,), (WISH_TWO, WISH, TAKE_TWO), ()), 501),
)
# Far more than 500 standings come of these.
MANY = (
    ((TAKE,), (TAKE,), (TAKE,), (PUT_TWO,), (PUT,)), ((WISH,),) * 4 + ((("put", 4),),), ((("wish", 4),) * 8,) * 5,
    ((TAKE_TWO,) * 8,) * 4 + ((("put", 4),) * 8,), ((PUT,) * 8,) * 5,
)


def some_weavings(count, seed):
    """Books and programs by a fixed row of numbers, of which at most 500 standings come."""
    numbers, found = Row(seed), []
    deeds = (TAKE, TAKE, TAKE_TWO, WISH, WISH_TWO, PUT, PUT, PUT_TWO, ("put", 3))
    while len(found) < count:
        programs = tuple(tuple(numbers.one_of(deeds) for _ in range(numbers.below(3)))
                         for _ in range(1 + numbers.below(4)))
        book = numbers.one_of(BOOKS)
        behind = woven(book, programs)
        if len(behind) <= 500:
            found.append((book, programs, behind))
    return found


def fewest(programs, behind):
    """How few moves lead to some harm, None if none do: all standings one move off, two moves off, and so on."""
    met, edge, many = set(), {start(programs)}, 0
    while edge:
        if any(harm(standing) is not None for standing in edge):
            return many
        met |= edge
        edge = {other for standing in edge for other in behind[standing]} - met
        many += 1
    return None


def made_all(book, standing, row):
    """The standings that come along the row of moves, that ahead of it among them."""
    along = [standing]
    for move in row:
        along.append(moved(book, along[-1], move))
    return along


def told_harms(behind):
    told = [harm(standing) for standing in behind]
    return "overdrawn" in told, any(isinstance(one, tuple) for one in told), has_round(behind)


def told_ends(behind):
    return tuple(sorted({(standing[0], sum(phase == "asleep" for _, phase, _ in standing[2]))
                         for standing in behind if rests(standing)}))


class WeavingTest(unittest.TestCase):
    """Base of the tests of weavings."""

    def assert_woven(self, book, programs, behind):
        """All defs tell of the programs what a second way of going through them tells."""
        self.assertEqual(many_come(book, programs), len(behind))
        self.assertEqual(harms(book, programs), told_harms(behind))
        self.assertEqual(ends(book, programs), told_ends(behind))
        self.assert_shortest(book, programs, behind)
        self.assert_round(book, programs, behind)

    def assert_shortest(self, book, programs, behind):
        found, many = shortest_loss(book, programs), fewest(programs, behind)
        if many is None:
            self.assertIsNone(found)
        else:
            self.assertIs(type(found), tuple)
            self.assertEqual(len(found), many)
            self.assertIsNotNone(harm(made_all(book, start(programs), found)[-1]))

    def assert_round(self, book, programs, behind):
        found = some_round(book, programs)
        if not has_round(behind):
            self.assertIsNone(found)
            return
        run, about = found
        self.assertEqual([type(found), type(run), type(about)], [tuple] * 3)
        ahead = made_all(book, start(programs), run)
        along = made_all(book, ahead[-1], about)
        self.assertGreater(len(about), 0)
        self.assertEqual(along[-1], along[0])
        self.assertEqual(len(set(ahead)), len(ahead))
        self.assertEqual(len(set(along)), len(along) - 1)


class SecondWayTest(WeavingTest):
    """[F1], [F2], [F3]: all defs beside a second way of going through weavings."""

    def test_programs_and_books_by_a_fixed_row_of_numbers(self):
        for book, programs, behind in some_weavings(400, 8):
            self.assert_woven(book, programs, behind)

    def test_small_programs_by_many_books(self):
        for place, book in enumerate(BOOKS[::5]):
            programs = SMALL[place % len(SMALL)]
            self.assert_woven(book, programs, woven(book, programs))

    def test_small_programs_by_the_known_books(self):
        for book in (notify_one(), notify_all(), hand_off(), careless(), ALWAYS):
            for programs in SMALL:
                self.assert_woven(book, programs, woven(book, programs))

    def test_all_programs_of_two_hands_with_a_deed_at_most(self):
        for book, programs in zip(itertools.cycle(BOOKS[::19]), small_programs()):
            self.assert_woven(book, programs, woven(book, programs))

    def test_rounds_by_all_books_that_have_some(self):
        for book in books_with("note ahead, call kept, put first, woken tries, pass always, comers free"):
            self.assertIs(harms(book, GREEDY)[2], True)
            self.assert_woven(book, GREEDY, woven(book, GREEDY))

    def test_they_come_to_each_harm_and_to_none(self):
        told = {harms(book, programs) for book, programs, _ in some_weavings(120, 9)} | {harms(ALWAYS, GREEDY)}
        self.assertLessEqual({(False, False, False), (True, True, False), (False, True, False), (False, False, True)},
                             told | {harms(careless(), PAIR)})


class EdgesTest(WeavingTest):
    """[F1], [F2], [F3]: the edges."""

    def test_hands_without_deeds(self):
        for book in BOOKS[::97]:
            for many in range(1, 6):
                programs = ((),) * many
                self.assertEqual(many_come(book, programs), 1)
                self.assertEqual((harms(book, programs), ends(book, programs)), ((False,) * 3, ((0, 0),)))
                self.assertEqual((shortest_loss(book, programs), some_round(book, programs)), (None, None))

    def test_one_hand_alone(self):
        self.assertEqual((many_come(notify_one(), ((TAKE,),)), ends(notify_one(), ((TAKE,),))), (5, ((0, 1),)))
        self.assertEqual((many_come(notify_one(), ((WISH,),)), ends(notify_one(), ((WISH,),))), (6, ((0, 0), (0, 1))))
        self.assertEqual((many_come(careless(), ((TAKE,),)), ends(careless(), ((TAKE,),))), (3, ((0, 1),)))
        self.assertEqual((many_come(notify_one(), ((PUT,),)), ends(notify_one(), ((PUT,),))), (3, ((1, 0),)))
        self.assertEqual((many_come(careless(), ((PUT_TWO,),)), ends(careless(), ((PUT_TWO,),))), (4, ((2, 0),)))
        self.assertEqual(ends(notify_one(), ((PUT, TAKE, PUT_TWO, TAKE),)), ((1, 0),))
        self.assertEqual(ends(notify_one(), ((PUT, TAKE_TWO, PUT),)), ((1, 1),))

    def test_puts_alone(self):
        for book in BOOKS[::61]:
            last = book[2] == "last"
            for programs in (((PUT,), (PUT,)), ((PUT, PUT_TWO), (("put", 4),)), ((PUT,), (), (PUT_TWO,))):
                many = 1
                for program in programs:
                    many *= 1 + len(program) * (3 if last else 2)
                total = sum(number for program in programs for _, number in program)
                self.assertEqual(many_come(book, programs), many)
                self.assertEqual((harms(book, programs), ends(book, programs)), ((False,) * 3, ((total, 0),)))

    def test_tokens_below_nothing_go_on_as_others(self):
        takes = turned(notify_one(), "woken", "takes")
        programs = ((TAKE,), (PUT, TAKE))
        self.assertEqual((harms(takes, programs), ends(takes, programs)), ((True, False, False), ((-1, 0), (0, 1))))
        lower = ((TAKE, PUT), (PUT, TAKE))
        behind = woven(takes, lower)
        below = [standing for standing in behind if standing[0] < 0]
        self.assertTrue(any(moves(takes, standing) for standing in below))
        self.assert_woven(takes, lower, behind)
        self.assertEqual((many_come(careless(), PAIR), ends(careless(), PAIR)), (16, ((0, 0), (1, 1))))

    def test_several_are_called_in_several_rounds(self):
        # One wants two, two want one each: two tokens can be given to one, or to both others in either order.
        programs = ((TAKE_TWO,), (TAKE,), (TAKE,), (PUT_TWO,))
        given = turned(turned(hand_off(), "note", "behind"), "pass", "never")
        for book in (given, turned(given, "order", "first"), turned(given, "many", "one")):
            self.assert_woven(book, programs, woven(book, programs))
        self.assertEqual(ends(given, programs), ((0, 1), (0, 2), (1, 2), (2, 3)))
        self.assertEqual(ends(given, ((TAKE_TWO,), (TAKE,), (PUT_TWO,))), ((0, 1), (1, 1), (2, 2)))

    def test_the_shortest_of_several_losses(self):
        early = turned(notify_one(), "note", "behind")
        self.assertEqual(shortest_loss(early, PAIR), ((0, "on"), (1, "on"), (1, "call"), (0, "on")))
        self.assertEqual(len(shortest_loss(careless(), PAIR)), 5)
        self.assertEqual(len(shortest_loss(early, ((TAKE,), (PUT, PUT)))), 6)
        self.assertEqual(len(shortest_loss(early, ((PUT,), (TAKE, TAKE)))), 4)

    def test_a_round_is_no_loss_that_shortest_loss_tells(self):
        self.assertIsNone(shortest_loss(ALWAYS, GREEDY))
        self.assertIsNotNone(some_round(ALWAYS, GREEDY))
        self.assertIsNone(some_round(careless(), PAIR))

    def test_some_round_is_a_run(self):
        run, about = some_round(ALWAYS, GREEDY)
        self.assertIsNone(run_error(ALWAYS, GREEDY, run + about * 5))
        self.assertEqual(led(ALWAYS, GREEDY, run + about * 5), led(ALWAYS, GREEDY, run))

    def test_what_is_returned(self):
        self.assertIs(type(many_come(notify_one(), PAIR)), int)
        told = harms(careless(), PAIR)
        self.assertEqual([type(told)] + [type(one) for one in told], [tuple, bool, bool, bool])
        told = ends(careless(), PAIR)
        self.assertEqual([type(told)] + [type(one) for one in told], [tuple, tuple, tuple])

    def test_equal_calls_and_arguments_by_name(self):
        for call in DEFS:
            for book, programs in ((careless(), PAIR), (ALWAYS, GREEDY), (notify_one(), SMALL[4])):
                again = tuple(tuple(tuple(deed) for deed in program) for program in programs)
                self.assertEqual(call(programs=again, book=tuple(list(book))), call(book, programs))


class TooManyTest(WeavingTest):
    """[F1]: at most 500 standings."""

    def assert_too_many(self, book, programs):
        for call in DEFS:
            with self.assertRaises(TooMany) as held:
                call(book, programs)
            self.assertEqual(held.exception.limit, 500)

    def test_five_hundred_and_one_more(self):
        for book, programs, many in FULL:
            behind = woven(book, programs)
            self.assertEqual(len(behind), many)
            if many <= 500:
                self.assert_woven(book, programs, behind)
            else:
                self.assert_too_many(book, programs)

    def test_whatever_was_found_by_then(self):
        early = turned(notify_one(), "note", "behind")
        self.assert_too_many(early, ((TAKE,), (PUT,), (TAKE, TAKE), (PUT, PUT)))
        self.assert_too_many(careless(), ((TAKE,), (PUT,), (TAKE, TAKE), (PUT, PUT, PUT)))
        self.assert_too_many(ALWAYS, GREEDY + ((PUT, TAKE_TWO),))

    def test_far_more(self):
        for programs in MANY:
            for book in (notify_one(), notify_all(), hand_off(), ALWAYS):
                self.assert_too_many(book, programs)

    def test_it_takes_no_long(self):
        given = turned(hand_off(), "many", "all")
        for book, programs, _ in FULL + tuple((book, programs, 0) for book in (ALWAYS, given) for programs in MANY):
            for call in DEFS:
                begun = time.process_time()
                try:
                    call(book, programs)
                except TooMany:
                    pass
                self.assertLess(time.process_time() - begun, 0.7)


class HoldsTest(WeavingTest):
    """[F4]: what holds of weavings."""

    @classmethod
    def setUpClass(cls):
        cls.some = some_weavings(250, 10)

    def test_good_books_do_no_harm(self):
        for sort in sorts():
            for book in [book for book in BOOKS if is_good(book, sort)]:
                for programs in SMALL:
                    if is_of(programs, sort):
                        self.assertEqual(harms(book, programs), (False, False, False))

    def test_which_are_none(self):
        for book, programs, _ in self.some:
            overdrawn, asleep, around = harms(book, programs)
            self.assertEqual(shortest_loss(book, programs) is None, not overdrawn and not asleep)
            self.assertEqual(some_round(book, programs) is None, not around)

    def test_there_are_ends_where_there_is_no_round(self):
        for book, programs, behind in self.some:
            if not harms(book, programs)[2]:
                self.assertNotEqual(ends(book, programs), ())
                still = [standing for standing in behind if not behind[standing]]
                self.assertTrue(all(rests(standing) for standing in still))

    def test_overdrawn_only_where_woken_ones_take(self):
        overdrawn = {book[4] for book, programs, _ in self.some if harms(book, programs)[0]}
        self.assertEqual(overdrawn, {"takes"})

    def test_where_nobody_is_ever_called(self):
        for book in BOOKS[::43]:
            for programs in (((PUT, WISH, PUT, TAKE_TWO),), ((TAKE,),), ((PUT,), (PUT, PUT_TWO), (PUT,))):
                for standing in woven(book, programs):
                    self.assertEqual([move[2:] for move in moves(book, standing) if move[2:]], [])
                    self.assertEqual({mark for _, _, mark in standing[2]}, {"no"})

    def test_a_further_hand_without_deeds(self):
        for book, programs, _ in self.some:
            if len(programs) < 5:
                for call in (many_come, harms, ends):
                    self.assertEqual(call(book, programs + ((),)), call(book, programs))

    def test_hands_that_are_exchanged(self):
        for book, programs, _ in self.some[::5]:
            for other in itertools.islice(itertools.permutations(programs), 7):
                for call in (many_come, harms, ends):
                    self.assertEqual(call(book, other), call(book, programs))

    def test_losses_are_found_by_weaving(self):
        for book in BOOKS[::67]:
            for sort in sorts():
                loss = losing(book, sort)
                if loss is None or len(woven(book, loss[0])) > 500:
                    continue
                self.assertEqual(any(harms(book, loss[0])), True)
                self.assertTrue(is_of(loss[0], sort) and not is_good(book, sort_of(loss[0])))
                if loss[2] == ():
                    self.assertLessEqual(len(shortest_loss(book, loss[0])), len(loss[1]))


if __name__ == "__main__":
    unittest.main()
