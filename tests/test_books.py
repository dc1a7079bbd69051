import copy
import itertools
import unittest

from leftasleep.books import book_error, book_of, entries, number_of, turned, word_of
from leftasleep.bounds import MAX_BOOKS
from leftasleep.errors import Unfit
from values import nested, odd_values

TABLE = (
    ("note", ("ahead", "behind")),
    ("call", ("kept", "lost")),
    ("put", ("first", "last")),
    ("many", ("one", "each", "all")),
    ("woken", ("tries", "takes", "given")),
    ("fails", ("back", "front")),
    ("pass", ("never", "left", "always")),
    ("quits", ("passes", "drops")),
    ("comers", ("free", "behind")),
    ("order", ("first", "any")),
)
NAMES = tuple(name for name, words in TABLE)
WORDS = tuple(words for name, words in TABLE)
# All books in the order of their numbers, told without the package.
BOOKS = tuple(itertools.product(*WORDS))
PLAIN = ("ahead", "kept", "first", "one", "tries", "back", "left", "passes", "free", "first")


class EntriesTest(unittest.TestCase):
    """[A4], [A5]: the table of the entries."""

    def test_the_table(self):
        self.assertEqual(entries(), TABLE)

    def test_it_is_made_of_tuples(self):
        self.assertIs(type(entries()), tuple)
        for pair in entries():
            self.assertIs(type(pair), tuple)
            self.assertIs(type(pair[1]), tuple)

    def test_the_example(self):
        self.assertEqual((entries()[0], entries()[6], [name for name, words in entries()][7:]),
                         (("note", ("ahead", "behind")), ("pass", ("never", "left", "always")),
                          ["quits", "comers", "order"]))


class BookErrorTest(unittest.TestCase):
    """[A5]: book_error."""

    def test_the_example(self):
        values = (PLAIN, PLAIN[:9], list(PLAIN), None, ("first",) + PLAIN[1:],
                  PLAIN[:3] + ("any", "tried") + PLAIN[5:], PLAIN[:9] + (True,))
        self.assertEqual([book_error(value) for value in values],
                         [None, "form", "form", "form", ("entry", "note"), ("entry", "many"), ("entry", "order")])

    def test_every_book_is_right(self):
        for book in BOOKS:
            self.assertIsNone(book_error(book))

    def test_nine_and_eleven_items(self):
        for value in (PLAIN[:9], PLAIN[1:], PLAIN + ("first",), PLAIN + PLAIN, ()):
            self.assertEqual(book_error(value), "form")

    def test_lists_dicts_and_strings_are_no_tuples(self):
        for value in (list(PLAIN), dict(zip(NAMES, PLAIN)), ", ".join(PLAIN), "a" * 10, [PLAIN], {PLAIN: PLAIN}):
            self.assertEqual(book_error(value), "form")

    def test_form_comes_ahead_of_wrong_entries(self):
        self.assertEqual(book_error(("wrong",) + PLAIN), "form")
        self.assertEqual(book_error(["wrong"] + list(PLAIN[1:])), "form")

    def test_each_entry_by_itself(self):
        for place, (name, words) in enumerate(TABLE):
            for word in ("", "wrong", words[0].upper(), words[0] + " ", name, (words[0],), [words[0]], None, place):
                value = PLAIN[:place] + (word,) + PLAIN[place + 1:]
                self.assertEqual(book_error(value), ("entry", name))

    def test_words_of_other_entries(self):
        for place, (name, words) in enumerate(TABLE):
            for word in sorted({word for row in WORDS for word in row}):
                told = book_error(PLAIN[:place] + (word,) + PLAIN[place + 1:])
                self.assertEqual(told, None if word in words else ("entry", name))

    def test_of_two_wrong_entries_the_first_is_told(self):
        for first, second in itertools.combinations(range(10), 2):
            value = list(PLAIN)
            value[first], value[second] = "wrong", None
            self.assertEqual(book_error(tuple(value)), ("entry", NAMES[first]))

    def test_wrong_items_of_all_kinds(self):
        for item in odd_values():
            for place in range(10):
                value = PLAIN[:place] + (item,) + PLAIN[place + 1:]
                self.assertEqual(book_error(value), ("entry", NAMES[place]))

    def test_values_of_all_kinds(self):
        for value in odd_values():
            ten = isinstance(value, tuple) and len(value) == 10
            self.assertEqual(book_error(value), ("entry", "note") if ten else "form")

    def test_what_the_package_returned(self):
        for value in (entries(), entries()[0], turned(PLAIN, "many", "all")[:9], number_of(PLAIN), book_error(())):
            self.assertIn(book_error(value), ("form", ("entry", "note")))


class WordOfTest(unittest.TestCase):
    """[A5]: word_of."""

    def test_the_example(self):
        self.assertEqual(word_of(PLAIN, "pass"), "left")

    def test_each_entry(self):
        for book in BOOKS:
            self.assertEqual(tuple(word_of(book, name) for name in NAMES), book)

    def test_names_of_no_entry(self):
        for name in odd_values() + ["wake", "ahead", "left", "NOTE", "not", "notes", 0, 1, b"note"]:
            with self.assertRaises(Unfit):
                word_of(PLAIN, name)


class TurnedTest(unittest.TestCase):
    """[A5]: turned."""

    def test_the_example(self):
        self.assertEqual(turned(PLAIN, "many", "all")[3], "all")
        self.assertEqual(turned(PLAIN, "put", "first"), PLAIN)
        with self.assertRaises(Unfit):
            turned(PLAIN, "put", "ahead")

    def test_each_entry_and_word(self):
        for book in BOOKS[::7] + BOOKS[-1:]:
            for place, (name, words) in enumerate(TABLE):
                for word in words:
                    made = turned(book, name, word)
                    self.assertIs(type(made), tuple)
                    self.assertEqual(made, book[:place] + (word,) + book[place + 1:])

    def test_turned_to_its_own_word(self):
        for book in BOOKS:
            for name in NAMES:
                self.assertEqual(turned(book, name, word_of(book, name)), book)

    def test_words_of_other_entries(self):
        for name, words in TABLE:
            for word in {word for row in WORDS for word in row if word not in words}:
                with self.assertRaises(Unfit):
                    turned(PLAIN, name, word)

    def test_names_of_no_entry(self):
        for name in odd_values() + ["wake", "ahead", 0]:
            for word in ("ahead", "first", None):
                with self.assertRaises(Unfit):
                    turned(PLAIN, name, word)

    def test_values_that_are_no_words(self):
        for name in NAMES:
            for word in odd_values() + [0, 1, name, (TABLE[0][1])]:
                with self.assertRaises(Unfit):
                    turned(PLAIN, name, word)


class NumbersTest(unittest.TestCase):
    """[A6]: number_of and book_of."""

    def test_the_example(self):
        self.assertEqual((number_of(PLAIN), book_of(0)[6:], book_of(3455)),
                         (8, ("never", "passes", "free", "first"),
                          ("behind", "lost", "last", "all", "given", "front", "always", "drops", "behind", "any")))
        self.assertEqual(book_of(249), ("ahead", "kept", "first", "each", "given", "back", "left", "passes", "free",
                                        "any"))
        with self.assertRaises(Unfit):
            book_of(True)

    def test_there_are_as_many_as_told(self):
        self.assertEqual((len(BOOKS), MAX_BOOKS), (3456, 3456))

    def test_numbers_of_all_books(self):
        for number, book in enumerate(BOOKS):
            self.assertEqual(number_of(book), number)

    def test_books_of_all_numbers(self):
        for number, book in enumerate(BOOKS):
            self.assertEqual(book_of(number), book)

    def test_they_are_inverse(self):
        for number in range(3456):
            self.assertEqual(number_of(book_of(number)), number)
        for book in BOOKS:
            self.assertEqual(book_of(number_of(book)), book)

    def test_books_are_tuples_and_numbers_integers(self):
        self.assertIs(type(book_of(17)), tuple)
        self.assertIs(type(number_of(PLAIN)), int)

    def test_the_ends(self):
        self.assertEqual(book_of(0), tuple(words[0] for words in WORDS))
        self.assertEqual(book_of(3455), tuple(words[-1] for words in WORDS))
        for number in (-1, 3456, -3456, 3457):
            with self.assertRaises(Unfit):
                book_of(number)

    def test_bools_are_no_numbers(self):
        for value in (True, False):
            with self.assertRaises(Unfit):
                book_of(value)

    def test_values_that_are_no_numbers(self):
        for value in odd_values() + [PLAIN, "8", (8,), [8], {8: 8}, 10 ** 399 + 8]:
            with self.assertRaises(Unfit):
                book_of(value)


class ConventionsTest(unittest.TestCase):
    """[A3]: what holds of all calls."""

    def test_arguments_by_name(self):
        self.assertIsNone(book_error(value=PLAIN))
        self.assertEqual(word_of(book=PLAIN, name="pass"), "left")
        self.assertEqual(word_of(name="pass", book=PLAIN), "left")
        self.assertEqual(turned(word="all", name="many", book=PLAIN), turned(PLAIN, "many", "all"))
        self.assertEqual(turned(PLAIN, name="many", word="all"), turned(PLAIN, "many", "all"))
        self.assertEqual(number_of(book=PLAIN), 8)
        self.assertEqual(book_of(value=8), PLAIN)

    def test_equal_calls_get_equal_results(self):
        self.assertEqual(entries(), entries())
        for value in odd_values() + [PLAIN]:
            self.assertEqual(book_error(value), book_error(copy.deepcopy(value)))
        for number in (0, 8, 3455):
            self.assertEqual(book_of(number), book_of(number))

    def test_what_is_handed_in_is_not_changed(self):
        for value in odd_values():
            before = copy.deepcopy(value)
            book_error(value)
            for call in (lambda: book_of(value), lambda: word_of(PLAIN, value), lambda: turned(PLAIN, value, value),
                         lambda: turned(PLAIN, "note", value)):
                self.assertRaises(Unfit, call)
            self.assertEqual(value, before)

    def test_deep_values_raise_nothing_else(self):
        for depth in (20, 21, 40):
            for value in (nested(depth, PLAIN), (nested(depth, 0),) * 10):
                self.assertIsNotNone(book_error(value))
                self.assertRaises(Unfit, book_of, value)
                self.assertRaises(Unfit, word_of, PLAIN, value)
                self.assertRaises(Unfit, turned, PLAIN, "put", value)

    def test_unlike_books_have_unlike_numbers(self):
        self.assertEqual(len({number_of(book) for book in BOOKS}), 3456)
        self.assertEqual(len({book_of(number) for number in range(3456)}), 3456)


if __name__ == "__main__":
    unittest.main()
