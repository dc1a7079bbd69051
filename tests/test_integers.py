import unittest

from leftasleep.integers import is_within
from values import odd_values


class IntegersTest(unittest.TestCase):
    """[A3]: an integer is an int that is not a bool."""

    def test_the_ends_belong_to_it(self):
        self.assertEqual([is_within(value, 1, 4) for value in range(7)],
                         [False, True, True, True, True, False, False])

    def test_bools_are_no_integers(self):
        self.assertIs(is_within(True, 0, 4), False)
        self.assertIs(is_within(False, 0, 4), False)

    def test_what_is_no_integer(self):
        for value in odd_values():
            self.assertIs(is_within(value, 0, 3455), False)

    def test_large_integers(self):
        self.assertIs(is_within(10 ** 399, 0, 10 ** 400), True)


if __name__ == "__main__":
    unittest.main()
