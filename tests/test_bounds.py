import unittest

from leftasleep import bounds


class BoundsTest(unittest.TestCase):
    """The interface: bounds.py."""

    def test_the_eight_bounds(self):
        told = {name: getattr(bounds, name) for name in dir(bounds) if name.startswith("MAX")}
        self.assertEqual(told, {
            "MAX_HANDS": 5, "MAX_DEEDS": 8, "MAX_WANT": 4, "MAX_MOVES": 400,
            "MAX_COME": 500, "MAX_EDITS": 100, "MAX_NAME": 12, "MAX_BOOKS": 3456,
        })

    def test_they_are_integers(self):
        for name in ("MAX_HANDS", "MAX_DEEDS", "MAX_WANT", "MAX_MOVES", "MAX_COME", "MAX_EDITS", "MAX_NAME",
                     "MAX_BOOKS"):
            self.assertIs(type(getattr(bounds, name)), int)


if __name__ == "__main__":
    unittest.main()
