import time
import unittest

from leftasleep.books import book_error
from leftasleep.good import idle, is_good, lacks, many_good, mended
from leftasleep.knownbooks import careless, hand_off, notify_all, notify_one
from samples import BOOK_NAMES, BOOK_WORDS, BOOKS, books_with

SORTS = LIKE, LIKE_LEAVING, ANY, ANY_LEAVING = (
    ("like", "staying"), ("like", "leaving"), ("any", "staying"), ("any", "leaving"))

# The table of [D2]: each word, the sorts for which it may be told, the books that lack it, and those that do not,
# though they are among these.
LACKING = (
    ("note", SORTS, "note behind", None),
    ("call", SORTS, "call lost", None),
    ("put", SORTS, "put last", None),
    ("takes", SORTS, "woken takes", None),
    ("comers", SORTS, "comers behind", None),
    ("one", SORTS, "many one, pass never", None),
    ("drops", (LIKE_LEAVING, ANY_LEAVING), "quits drops", "many all, woken tries"),
    ("always", (ANY, ANY_LEAVING), "woken tries, pass always", None),
    ("many", (ANY, ANY_LEAVING), "woken tries, many one|each", None),
    ("first", (ANY, ANY_LEAVING), "woken given, order first", None),
    ("never", (ANY_LEAVING,), "woken given, pass never", None),
)
LACKED = [(word, sorts, set(books_with(so)) - set(books_with(but) if but else ())) for word, sorts, so, but in LACKING]


def told_lacks(book, sort):
    return tuple(word for word, sorts, books in LACKED if sort in sorts and book in books)


def words_turned(book):
    """The pairs of the name of an entry and all books that differ from book there alone, and book itself."""
    for place, (name, words) in enumerate(zip(BOOK_NAMES, BOOK_WORDS)):
        yield name, [book[:place] + (word,) + book[place + 1:] for word in words]


class LacksTest(unittest.TestCase):
    """[D2]: lacks and is_good."""

    def test_all_books_and_sorts(self):
        for book in BOOKS:
            for sort in SORTS:
                self.assertEqual(lacks(book, sort), told_lacks(book, sort), (book, sort))

    def test_each_word_comes_for_its_sorts_and_by_itself(self):
        for word, sorts, _ in LACKED:
            found = {sort: [lacks(book, sort) for book in BOOKS if word in lacks(book, sort)] for sort in SORTS}
            self.assertEqual([sort for sort in SORTS if found[sort]], list(sorts))
            self.assertIn((word,), found[sorts[0]])

    def test_good_is_who_lacks_nothing(self):
        for book in BOOKS:
            for sort in SORTS:
                self.assertIs(is_good(book, sort), lacks(book, sort) == ())

    def test_arguments_by_name(self):
        self.assertEqual(lacks(sort=ANY, book=notify_one()), ("many",))
        self.assertIs(is_good(sort=ANY, book=notify_one()), False)
        self.assertEqual(idle(sort=ANY, book=hand_off()), idle(hand_off(), ANY))
        self.assertEqual(mended(sort=ANY, book=hand_off()), (0, hand_off()))
        self.assertEqual(many_good(sort=ANY), 48)


class ManyGoodTest(unittest.TestCase):
    """[D3]: many_good."""

    def test_the_four_numbers(self):
        self.assertEqual([many_good(sort) for sort in SORTS], [128, 76, 48, 28])

    def test_as_many_as_there_are(self):
        for sort in SORTS:
            self.assertEqual(many_good(sort), sum(told_lacks(book, sort) == () for book in BOOKS))

    def test_it_takes_no_long(self):
        for sort in SORTS:
            begun = time.process_time()
            many_good(sort)
            mended(careless(), sort)
            self.assertLess(time.process_time() - begun, 1)


class IdleTest(unittest.TestCase):
    """[D3]: idle."""

    def test_all_books_and_sorts(self):
        for book in BOOKS[::5]:
            for sort in SORTS:
                told = tuple(name for name, others in words_turned(book)
                             if len({told_lacks(other, sort) for other in others}) == 1)
                self.assertEqual(idle(book, sort), told)

    def test_the_third_word_of_an_entry_counts(self):
        self.assertEqual(idle(notify_all(), LIKE), ("fails", "pass", "quits", "order"))
        self.assertNotIn("pass", idle(notify_all(), ANY))


class MendedTest(unittest.TestCase):
    """[D3]: mended."""

    def test_it_is_a_good_book_that_differs_in_so_many(self):
        for sort in SORTS:
            good = [book for book in BOOKS if told_lacks(book, sort) == ()]
            for book in BOOKS[::61]:
                turns, other = mended(book, sort)
                self.assertIsNone(book_error(other))
                self.assertEqual(told_lacks(other, sort), ())
                self.assertEqual(sum(one != two for one, two in zip(book, other)), turns)
                self.assertEqual(turns, min(sum(one != two for one, two in zip(book, each)) for each in good))

    def test_good_books_stay_as_they_are(self):
        for sort in SORTS:
            for book in BOOKS:
                if told_lacks(book, sort) == () and sort in (LIKE_LEAVING, ANY_LEAVING):
                    self.assertEqual(mended(book, sort), (0, book))

    def test_equal_calls(self):
        for book in (careless(), notify_one()):
            for sort in SORTS:
                self.assertEqual(mended(book, sort), mended(tuple(list(book)), sort))
                self.assertEqual([type(item) for item in mended(book, sort)], [int, tuple])


class HoldsTest(unittest.TestCase):
    """[D4]: what holds of what books lack."""

    def test_good_for_more_is_good_for_less(self):
        for book in BOOKS:
            good = {sort for sort in SORTS if is_good(book, sort)}
            for want in ("like", "any"):
                self.assertFalse((want, "leaving") in good and (want, "staying") not in good)
            for stay in ("staying", "leaving"):
                self.assertFalse(("any", stay) in good and ("like", stay) not in good)

    def test_lacks_for_more_has_all_words_for_less(self):
        for book in BOOKS:
            for stay in ("staying", "leaving"):
                self.assertLessEqual(set(lacks(book, ("like", stay))), set(lacks(book, ("any", stay))))
            for want in ("like", "any"):
                self.assertLessEqual(set(lacks(book, (want, "staying"))), set(lacks(book, (want, "leaving"))))

    def test_entries_that_play_no_part(self):
        for book in BOOKS[::3]:
            for want, stay in SORTS:
                told = idle(book, (want, stay))
                self.assertIn("fails", told)
                if stay == "staying":
                    self.assertIn("quits", told)
                if want == "like":
                    self.assertIn("order", told)

    def test_doing_more_can_do_harm(self):
        for stay in ("staying", "leaving"):
            for book in books_with("woken tries, pass always"):
                self.assertFalse(is_good(book, ("any", stay)))
            self.assertTrue(any(is_good(book, ("any", stay)) for book in books_with("woken tries, pass left")))


if __name__ == "__main__":
    unittest.main()
