import time
import unittest

from leftasleep.good import lacks
from leftasleep.knownbooks import careless, hand_off, notify_all, notify_one
from leftasleep.losejudge import losing_error
from leftasleep.losing import losing
from leftasleep.moving import moved, moves
from leftasleep.programs import is_of, programs_error
from leftasleep.runs import harm
from leftasleep.standings import start
from samples import BOOKS, books_with
from weavings import does_harm

SORTS = LIKE, LIKE_LEAVING, ANY, ANY_LEAVING = (
    ("like", "staying"), ("like", "leaving"), ("any", "staying"), ("any", "leaving"))
# For each word of what may be lacking first how many hands are enough ([E4], [M7]).
HANDS = {"note": 2, "call": 2, "put": 2, "takes": 3, "comers": 3, "one": 3, "drops": 3, "always": 3, "many": 3,
         "first": 3, "never": 4}


def losses():
    """All books and sorts for which there is a loss, with that which is told."""
    return [(book, sort, losing(book, sort)) for book in BOOKS for sort in SORTS if lacks(book, sort)]


def does_lose(book, loss):
    """Whether the loss does harm by book, one move behind another."""
    programs, run, about = loss
    standing = start(programs)
    for move in run:
        if move not in moves(book, standing):
            return False
        standing = moved(book, standing, move)
    if about == ():
        return harm(standing) is not None
    behind = standing
    for move in about:
        if move not in moves(book, behind):
            return False
        behind = moved(book, behind, move)
    return behind == standing


class LosingTest(unittest.TestCase):
    """[E1], [E2], [E4]: losing."""

    @classmethod
    def setUpClass(cls):
        cls.losses = losses()

    def test_none_just_for_books_that_lack_nothing(self):
        for book in BOOKS:
            for sort in SORTS:
                self.assertEqual(losing(book, sort) is None, lacks(book, sort) == (), (book, sort))

    def test_the_known_books(self):
        told = [[losing(book, sort) is None for sort in SORTS]
                for book in (notify_one(), notify_all(), hand_off(), careless())]
        self.assertEqual(told, [[True, True, False, False], [True] * 4, [True] * 4, [False] * 4])

    def test_each_loss_is_one(self):
        for book, sort, loss in self.losses:
            self.assertIsNone(losing_error(book, sort, loss), (book, sort))
            self.assertTrue(does_lose(book, loss), (book, sort))

    def test_how_they_are_built(self):
        for _, sort, loss in self.losses:
            self.assertIs(type(loss), tuple)
            programs, run, about = loss
            self.assertIsNone(programs_error(programs))
            self.assertTrue(is_of(programs, sort))
            self.assertEqual([type(run), type(about)], [tuple, tuple])
            self.assertLessEqual(len(run) + len(about), 400)

    def test_four_hands_with_a_deed_each_are_enough(self):
        for book, sort, (programs, _, _) in self.losses:
            self.assertEqual(len(programs), HANDS[lacks(book, sort)[0]])
            self.assertEqual({len(program) for program in programs}, {1})
            self.assertLessEqual({number for program in programs for _, number in program}, {1, 2})

    def test_there_are_losses_for_each_word_that_is_lacking_first(self):
        self.assertEqual({lacks(book, sort)[0] for book, sort, _ in self.losses}, set(HANDS))

    def test_rounds_only_where_called_ones_try_and_always_pass(self):
        for book, sort, (_, _, about) in self.losses:
            self.assertEqual(about != (), lacks(book, sort)[0] == "always")

    def test_harm_comes_at_the_end_of_a_run_alone(self):
        for book, _, (programs, run, about) in self.losses[::5]:
            standing, harmless = start(programs), True
            for move in run:
                self.assertTrue(harmless)
                standing = moved(book, standing, move)
                harmless = harm(standing) is None
            self.assertEqual(harmless, about != ())

    def test_a_loss_for_less_is_one_for_more(self):
        for book, (want, stay), loss in self.losses[::3]:
            for sort in SORTS:
                more = (sort[0] == "any" or want == "like") and (sort[1] == "leaving" or stay == "staying")
                if more:
                    self.assertIsNone(losing_error(book, sort, loss))

    def test_the_programs_do_harm_in_all_their_weavings_together(self):
        for book, _, (programs, _, _) in self.losses[::97]:
            self.assertTrue(does_harm(book, programs))

    def test_what_is_told_of_some_books(self):
        one = books_with("note behind, call kept, put first, many one, woken tries, fails back, pass left, "
                         "quits passes, comers free, order first")[0]
        run = ((0, "on"), (1, "on"), (1, "call"), (0, "on"))
        self.assertEqual(len(losing(one, LIKE)[1]), len(run))
        self.assertIsNone(losing_error(one, LIKE, (((("take", 1),), (("put", 1),)), run, ())))

    def test_equal_calls_and_arguments_by_name(self):
        for book, sort, loss in self.losses[::101]:
            self.assertEqual(losing(sort=(sort[0], sort[1]), book=tuple(list(book))), loss)
        self.assertIsNone(losing(book=notify_all(), sort=ANY_LEAVING))

    def test_it_takes_no_long(self):
        for book in BOOKS[::53]:
            for sort in SORTS:
                begun = time.process_time()
                losing(book, sort)
                self.assertLess(time.process_time() - begun, 0.5)


class DoneByHandTest(unittest.TestCase):
    """[E4], [M7]: the losses that the document tells, each by a book that lacks that word first."""

    def asleep(self, *hands):
        return tuple((hand, "on") for hand in hands for _ in range(4))

    def assert_loss(self, words, sort, programs, run, about=()):
        for book in books_with(words):
            self.assertIsNone(losing_error(book, sort, (programs, run, about)), book)

    def test_note(self):
        self.assert_loss("note behind, put first", LIKE, ((("take", 1),), (("put", 1),)),
                         ((0, "on"), (1, "on"), (1, "call"), (0, "on")))
        self.assert_loss("note behind, put last", LIKE, ((("take", 1),), (("put", 1),)),
                         ((0, "on"), (1, "on"), (1, "call"), (1, "on"), (0, "on")))

    def test_call(self):
        self.assert_loss("note ahead, call lost, put first", LIKE, ((("take", 1),), (("put", 1),)),
                         ((0, "on"),) * 3 + ((1, "on"), (1, "call", 0), (0, "on")))

    def test_put(self):
        called = self.asleep(0) + ((1, "on"), (1, "call", 0))
        words = "note ahead, call kept, put last, woken "
        self.assert_loss(words + "tries", LIKE, ((("take", 1),), (("put", 1),)), called + ((0, "on"),) * 3 + ((1, "on"),))
        self.assert_loss(words + "takes", LIKE, ((("take", 1),), (("put", 1),)), called + ((0, "on"),))
        self.assert_loss(words + "given", LIKE, ((("take", 1),), (("put", 1),)),
                         self.asleep(0) + ((1, "on"), (1, "call"), (1, "on")))

    def test_takes(self):
        programs = ((("take", 1),), (("put", 1),), (("take", 1),))
        self.assert_loss("note ahead, call kept, put first, woken takes", LIKE, programs,
                         self.asleep(0) + ((1, "on"), (1, "call", 0), (2, "on"), (0, "on")))

    def test_comers(self):
        programs = ((("take", 1),), (("take", 1),), (("put", 2),))
        run = ((0, "on"), (1, "on"), (2, "on"), (2, "call"), (0, "on"), (1, "on"), (1, "on"), (1, "on"), (0, "on"))
        self.assert_loss("note ahead, call kept, put first, woken tries|given, comers behind", LIKE, programs, run)

    def test_one(self):
        programs = ((("take", 1),), (("take", 1),), (("put", 2),))
        self.assert_loss("note ahead, call kept, put first, woken tries|given, comers free, many one, pass never", LIKE,
                         programs, self.asleep(0, 1) + ((2, "on"), (2, "call", 0), (0, "on")))

    def test_drops(self):
        programs = ((("wish", 1),), (("take", 1),), (("put", 1),))
        run = self.asleep(0, 1) + ((2, "on"), (2, "call", 0), (0, "away"))
        words = "note ahead, call kept, put first, comers free, quits drops, "
        self.assert_loss(words + "many one|each, woken tries", LIKE_LEAVING, programs, run)
        self.assert_loss(words + "woken given", LIKE_LEAVING, programs, run)

    def test_always(self):
        twos = ((("take", 2),), (("take", 2),), (("put", 1),))
        words = "note ahead, call kept, put first, woken tries, pass always, comers free, many "
        about = ((1, "on"), (1, "call", 0), (1, "on"), (1, "on"), (0, "on"), (0, "call", 1), (0, "on"), (0, "on"))
        first = self.asleep(0, 1) + ((2, "on"), (2, "call", 0), (0, "on"), (0, "call", 1), (0, "on"), (0, "on"))
        both = self.asleep(0, 1) + ((2, "on"), (2, "call", 0, 1), (0, "on"), (0, "on"), (0, "on"))
        self.assert_loss(words + "one|each", ANY, twos, first, about)
        self.assert_loss(words + "all", ANY, twos, both, about)

    def test_many_and_first(self):
        programs = ((("take", 2),), (("take", 1),), (("put", 1),))
        words = "note ahead, call kept, put first, comers free, "
        self.assert_loss(words + "woken tries, many one|each, pass never|left", ANY, programs,
                         self.asleep(0, 1) + ((2, "on"), (2, "call", 0), (0, "on"), (0, "on"), (0, "on")))
        self.assert_loss(words + "woken given, order first", ANY, programs, self.asleep(0, 1) + ((2, "on"), (2, "call")))

    def test_never(self):
        programs = ((("wish", 2),), (("take", 1),), (("take", 1),), (("put", 2),))
        run = self.asleep(0, 1, 2) + ((3, "on"), (3, "call", 0), (0, "away"), (0, "call", 1), (1, "on"))
        self.assert_loss("note ahead, call kept, put first, comers free, woken given, many each|all, pass never, "
                         "quits passes, order any", ANY_LEAVING, programs, run)


if __name__ == "__main__":
    unittest.main()
