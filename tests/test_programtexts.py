import copy
import unittest

from leftasleep.errors import BadPrograms, BadText
from leftasleep.programs import programs_error
from leftasleep.programtexts import programs_text, read_programs
from samples import DEEDS, mixed_programs, small_programs
from values import nested, odd_values

PAIR = ((("take", 1),), (("put", 2),))


class ProgramsTextTest(unittest.TestCase):
    """[A10]: programs_text."""

    def test_each_deed(self):
        for word, number in DEEDS:
            self.assertEqual(programs_text((((word, number),),)), word + " " + str(number))

    def test_what_parts_deeds_and_programs(self):
        self.assertEqual(programs_text(((("put", 1), ("take", 2), ("wish", 3)), (("put", 4),))),
                         "put 1, take 2, wish 3\nput 4")

    def test_hands_without_deeds(self):
        for many in range(1, 6):
            self.assertEqual(programs_text(((),) * many), "\n" * (many - 1))
        self.assertEqual(programs_text(((), (("put", 1),))), "\nput 1")
        self.assertEqual(programs_text(((("put", 1),), ())), "put 1\n")

    def test_unlike_programs_have_unlike_texts(self):
        programs = set(small_programs() + mixed_programs(500))
        self.assertEqual(len({programs_text(one) for one in programs}), len(programs))

    def test_arguments_by_name(self):
        self.assertEqual(programs_text(programs=PAIR), "take 1\nput 2")
        self.assertEqual(read_programs(value="take 1\nput 2"), PAIR)


class ReadProgramsTest(unittest.TestCase):
    """[A10], [A11]: read_programs."""

    def assert_bad_text(self, value, line):
        with self.assertRaises(BadText) as held:
            read_programs(value)
        self.assertEqual(held.exception.place, line, value)
        self.assertIs(type(held.exception.place), int)

    def assert_bad_programs(self, value, error):
        with self.assertRaises(BadPrograms) as held:
            read_programs(value)
        self.assertEqual(held.exception.error, error)

    def test_programs_are_read_back(self):
        for programs in small_programs() + mixed_programs(500):
            self.assertEqual(read_programs(programs_text(programs)), programs)

    def test_what_is_read_are_programs(self):
        for text in ("", "\n", "put 1, wish 4\n\ntake 1", "\n\n\n\n"):
            self.assertIsNone(programs_error(read_programs(text)))
            self.assertEqual(programs_text(read_programs(text)), text)

    def test_texts_that_end_with_a_line_feed(self):
        self.assertEqual(read_programs("put 1\n"), ((("put", 1),), ()))
        self.assertEqual(read_programs("\nput 1"), ((), (("put", 1),)))
        self.assertEqual(read_programs("put 1\n" * 4), ((("put", 1),),) * 4 + ((),))

    def test_five_hands_and_six_and_none(self):
        self.assertEqual(read_programs("\n".join(["take 2"] * 5)), ((("take", 2),),) * 5)
        self.assertEqual(read_programs("\n" * 4), ((),) * 5)
        for text in ("\n".join(["take 2"] * 6), "\n" * 5, "put 1\n" * 5, "\n" * 20000):
            self.assert_bad_programs(text, "form")
        self.assertEqual(read_programs(""), ((),))

    def test_eight_deeds_and_nine(self):
        eight, nine = ", ".join(["wish 4"] * 8), ", ".join(["wish 4"] * 9)
        self.assertEqual(read_programs(eight), ((("wish", 4),) * 8,))
        for hand in range(5):
            self.assert_bad_programs("\n" * hand + nine + "\n" * (4 - hand), ("program", hand))
        self.assert_bad_programs(eight + "\n" + nine + "\n" + nine, ("program", 1))
        self.assert_bad_programs("\n".join([nine] * 6), "form")
        self.assert_bad_programs(", ".join(["put 1"] * 2500), ("program", 0))

    def test_lines_that_are_no_deeds(self):
        wrong = ("take 0", "take 5", "take 10", "take 01", "take 001", "take -1", "take +1", "take 1.", "take 1.0",
                 "take", "take ", "take  1", " take 1", "take 1 ", "take1", "1 take", "1", "Take 1", "TAKE 1",
                 "takes 1", "give 1", "take one", "take True", "take 1,", "take 1, ", ", take 1", "take 1,, take 1",
                 "take 1,take 1", "take 1 , take 1", "take 1,  take 1", "take 1, , take 1", "take 1 take 1",
                 "take 1;take 1", " ", ",", ", ", "('take', 1)", "take 1 1", "take\t1", "take 1_", "take 1" * 2,
                 "take 12", "a" * 5000, "take " + "1" * 5000)
        for line in wrong:
            self.assert_bad_text(line, 0)
            for place in range(5):
                lines = ["put 1, wish 2"] * place + [line] + [""] * (4 - place)
                self.assert_bad_text("\n".join(lines), place)
            self.assert_bad_text(line + "\n" + line, 0)
            self.assert_bad_text("take 1, " + line, 0)

    def test_wrong_lines_come_ahead_of_wrong_programs(self):
        nine = ", ".join(["put 1"] * 9)
        self.assert_bad_text(nine + "\nput 5", 1)
        self.assert_bad_text("put 1\n" * 6 + "x", 6)
        self.assert_bad_text("\n" * 100 + "x", 100)
        self.assert_bad_text(nine + ", x", 0)

    def test_the_first_wrong_line_is_told(self):
        self.assert_bad_text("put 1\nx\ny", 1)
        self.assert_bad_text("put 1\n\n \ny", 2)

    def test_other_line_ends_are_no_line_feeds(self):
        for end in ("\r", "\r\n", "\x0b", "\x0c", "\x1c", "\x85"):
            self.assert_bad_text("put 1" + end + "put 1", 0)

    def test_what_is_no_string(self):
        for value in odd_values() + [PAIR, list(PAIR), ["put 1"], ("put 1",), {"put 1": 1}, b"put 1",
                                     nested(20, "put 1"), nested(30, PAIR)]:
            if value == "":
                continue
            before = copy.deepcopy(value)
            self.assert_bad_text(value, 0)
            self.assertEqual(value, before)

    def test_long_texts_of_one_sign(self):
        for sign in "a 1,":
            self.assert_bad_text(sign * 20000, 0)


if __name__ == "__main__":
    unittest.main()
