import copy
import unittest

from leftasleep.books import book_error
from leftasleep.booktexts import book_text, read_book
from leftasleep.errors import BadText
from leftasleep.knownbooks import notify_one
from samples import BOOK_NAMES, BOOK_WORDS, BOOKS
from values import nested, odd_values

PLAIN = ("ahead", "kept", "first", "one", "tries", "back", "left", "passes", "free", "first")
TEXT = ("note ahead, call kept, put first, many one, woken tries, fails back, pass left, quits passes, comers free, "
        "order first")
PARTS = TEXT.split(", ")


class BookTextTest(unittest.TestCase):
    """[A8]: book_text."""

    def test_the_example(self):
        self.assertEqual(book_text(PLAIN), TEXT)

    def test_all_books(self):
        for book in BOOKS:
            self.assertEqual(book_text(book), ", ".join(name + " " + word for name, word in zip(BOOK_NAMES, book)))

    def test_unlike_books_have_unlike_texts(self):
        self.assertEqual(len({book_text(book) for book in BOOKS}), 3456)

    def test_arguments_by_name(self):
        self.assertEqual(book_text(book=PLAIN), TEXT)
        self.assertEqual(read_book(value=TEXT), PLAIN)


class ReadBookTest(unittest.TestCase):
    """[A8], [A11]: read_book."""

    def assert_bad(self, value, place):
        with self.assertRaises(BadText) as held:
            read_book(value)
        self.assertEqual(held.exception.place, place)
        self.assertIs(type(held.exception.place), int)

    def test_all_books_are_read_back(self):
        for book in BOOKS:
            self.assertEqual(read_book(book_text(book)), book)

    def test_what_is_read_is_a_book(self):
        self.assertIs(type(read_book(TEXT)), tuple)
        self.assertIsNone(book_error(read_book(TEXT)))
        self.assertEqual(read_book(TEXT), notify_one())

    def test_too_few_parts(self):
        for many in range(1, 10):
            self.assert_bad(", ".join(PARTS[:many]), many)

    def test_too_many_parts(self):
        for more in ("", "order first", "note ahead", "x", ", ", TEXT):
            self.assert_bad(TEXT + ", " + more, 10)

    def test_no_parts(self):
        for value in ("", " ", ",", ", ", ", " * 9, ", " * 10, ", " * 9999):
            self.assert_bad(value, 0)

    def test_each_wrong_part(self):
        for place, part in enumerate(PARTS):
            name, word = part.split(" ")
            for wrong in ("", " ", name, word, name + " ", " " + word, name + "  " + word, name + word, " " + part,
                          part + " ", part + ",", "," + part, part.upper(), part + "\n", name + " wrong",
                          word + " " + name, part + " " + word, name + "\n" + word, part + "s"):
                self.assert_bad(", ".join(PARTS[:place] + [wrong] + PARTS[place + 1:]), place)

    def test_words_of_other_entries(self):
        words = sorted({word for row in BOOK_WORDS for word in row})
        for place, (name, own) in enumerate(zip(BOOK_NAMES, BOOK_WORDS)):
            for word in words:
                text = ", ".join(PARTS[:place] + [name + " " + word] + PARTS[place + 1:])
                if word in own:
                    self.assertEqual(read_book(text), PLAIN[:place] + (word,) + PLAIN[place + 1:])
                else:
                    self.assert_bad(text, place)

    def test_entries_in_another_order(self):
        for place in range(9):
            turned = PARTS[:place] + [PARTS[place + 1], PARTS[place]] + PARTS[place + 2:]
            self.assert_bad(", ".join(turned), place)
        self.assert_bad(", ".join(reversed(PARTS)), 0)

    def test_a_part_that_is_left_out_makes_the_next_one_wrong(self):
        for place in range(9):
            self.assert_bad(", ".join(PARTS[:place] + PARTS[place + 1:]), place)
        for place in range(10):
            self.assert_bad(", ".join(PARTS[:place] + [PARTS[0]] + PARTS[place:]), 1 if place == 0 else place)

    def test_the_first_wrong_part_comes_ahead_of_their_number(self):
        self.assert_bad(", ".join(PARTS[:3] + ["x", "y"]), 3)
        self.assert_bad(", ".join(PARTS[:9] + ["x", "y"]), 9)
        self.assert_bad(", ".join(["x"] + PARTS[1:] + PARTS), 0)
        self.assert_bad(", ".join(PARTS[:4] + ["x"] + PARTS[5:7] + ["y"]), 4)

    def test_a_blank_or_a_comma_too_many_or_none(self):
        for place in range(9):
            ahead, behind = ", ".join(PARTS[:place + 1]), ", ".join(PARTS[place + 1:])
            self.assert_bad(ahead + "," + behind, place)
            self.assert_bad(ahead + " " + behind, place)
            self.assert_bad(ahead + behind, place)
            self.assert_bad(ahead + ",, " + behind, place)
            self.assert_bad(ahead + " , " + behind, place)
            self.assert_bad(ahead + ",  " + behind, place + 1)
            self.assert_bad(ahead + ", , " + behind, place + 1)
            self.assert_bad(ahead + "\n" + behind, place)
        self.assert_bad(TEXT + ",", 9)
        self.assert_bad(TEXT + " ", 9)
        self.assert_bad(TEXT + "\n", 9)
        self.assert_bad(" " + TEXT, 0)
        self.assert_bad(", " + TEXT, 0)

    def test_what_is_no_string(self):
        for value in odd_values() + [PLAIN, list(PLAIN), PARTS, tuple(PARTS), {TEXT: TEXT}, (TEXT,), nested(20, TEXT),
                                     TEXT.encode(), book_error(None)]:
            before = copy.deepcopy(value)
            self.assert_bad(value, 0)
            self.assertEqual(value, before)

    def test_long_texts(self):
        for value in ("a" * 20000, " " * 20000, "," * 20000, "\n" * 20000, "note ahead" * 2000, "note ahead, " * 1600):
            self.assert_bad(value, 1 if value.startswith("note ahead, ") else 0)

    def test_equal_calls(self):
        self.assertEqual(read_book(TEXT), read_book(TEXT))
        for _ in range(2):
            self.assert_bad(TEXT + ", ", 10)


if __name__ == "__main__":
    unittest.main()
