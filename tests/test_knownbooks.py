import unittest

from leftasleep.books import book_error, number_of
from leftasleep.knownbooks import careless, hand_off, notify_all, notify_one


class KnownBooksTest(unittest.TestCase):
    """[A7]: the four known books."""

    def test_the_table(self):
        table = (
            (notify_one, "ahead, kept, first, one, tries, back, left, passes, free, first"),
            (notify_all, "ahead, kept, first, all, tries, back, never, drops, free, first"),
            (hand_off, "ahead, kept, first, each, given, back, left, passes, free, any"),
            (careless, "behind, lost, last, one, takes, back, never, drops, free, first"),
        )
        for known, words in table:
            self.assertEqual(known(), tuple(words.split(", ")))

    def test_the_example(self):
        plain = ("ahead", "kept", "first", "one", "tries", "back", "left", "passes", "free", "first")
        self.assertEqual(notify_one(), plain)
        self.assertEqual([number_of(book) for book in (notify_one(), notify_all(), hand_off(), careless())],
                         [8, 292, 249, 3076])

    def test_they_are_books(self):
        for known in (notify_one, notify_all, hand_off, careless):
            self.assertIsNone(book_error(known()))
            self.assertEqual(known(), known())


if __name__ == "__main__":
    unittest.main()
