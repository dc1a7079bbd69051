import copy
import itertools
import unittest

from leftasleep.programs import is_of, programs_error, sort_of, sorts
from samples import DEEDS, mixed_programs, small_programs
from values import nested, odd_values

LIKE, LIKE_LEAVING, ANY, ANY_LEAVING = SORTS = (
    ("like", "staying"), ("like", "leaving"), ("any", "staying"), ("any", "leaving"))
PAIR = ((("take", 1),), (("put", 2),))

# What is no deed, whatever the reason.
NO_DEEDS = (
    ("take", 0), ("take", 5), ("take", -1), ("take", True), ("put", True), ("put", False), ("wish", False),
    ("take", 10 ** 399), ("take", "1"), ("take", None), ("take", (1,)), ("take", [1]), ("take", {1: 1}),
    ("give", 1), ("Take", 1), ("take ", 1), ("", 1), ("takes", 1), (None, 1), (1, 1), (True, 1), (("take",), 1),
    (["take"], 1), ({"take": 1}, 1), (1, "take"), ("take",), ("take", 1, 1), ("take", 1, None), (), ["take", 1],
    {"take": 1}, "take 1", "take", 1, None, True, (("take", 1),), ["put", 1],
)


class ProgramsErrorTest(unittest.TestCase):
    """[A9]: programs_error."""

    def test_each_deed(self):
        for deed in DEEDS:
            self.assertIsNone(programs_error(((deed,),)))

    def test_many_programs(self):
        for programs in small_programs() + mixed_programs(300):
            self.assertIsNone(programs_error(programs))

    def test_one_to_five_hands(self):
        for many in range(9):
            for program in ((), (("put", 1),), (("take", 1),) * 8):
                self.assertEqual(programs_error((program,) * many), None if 1 <= many <= 5 else "form")

    def test_at_most_eight_deeds(self):
        for many in range(12):
            for hand in range(5):
                value = ((),) * hand + ((("wish", 4),) * many,) + ((),) * (4 - hand)
                self.assertEqual(programs_error(value), None if many <= 8 else ("program", hand))

    def test_a_list_is_no_tuple(self):
        self.assertEqual(programs_error(list(PAIR)), "form")
        self.assertEqual(programs_error([]), "form")
        for hand in range(5):
            value = ((),) * hand + ([("put", 1)],) + ((),) * (4 - hand)
            self.assertEqual(programs_error(value), ("program", hand))
            self.assertEqual(programs_error(((),) * hand + ((["put", 1],),)), ("deed", hand, 0))

    def test_what_is_no_deed(self):
        for deed in NO_DEEDS:
            self.assertEqual(programs_error(((deed,),)), ("deed", 0, 0), deed)
            for hand, place in itertools.product(range(5), range(8)):
                program = (("put", 1),) * place + (deed,) + (("take", 2),) * (7 - place)
                value = ((("wish", 3),),) * hand + (program,) + ((),) * (4 - hand)
                self.assertEqual(programs_error(value), ("deed", hand, place), deed)

    def test_true_and_false_are_no_numbers(self):
        for word in ("put", "take", "wish"):
            for number in (True, False, 0, 5, -1):
                self.assertEqual(programs_error(((), (("put", 1), (word, number)))), ("deed", 1, 1))

    def test_form_comes_first(self):
        self.assertEqual(programs_error((None,) * 6), "form")
        self.assertEqual(programs_error(((("take", 9),),) * 6), "form")
        self.assertEqual(programs_error([None]), "form")

    def test_programs_come_ahead_of_deeds(self):
        self.assertEqual(programs_error(((("take", 9),), None)), ("program", 1))
        self.assertEqual(programs_error(((None,), (None,), (("put", 1),) * 9)), ("program", 2))
        self.assertEqual(programs_error(((None,) * 9, (None,))), ("program", 0))

    def test_the_first_one_is_told(self):
        self.assertEqual(programs_error(((), None, [])), ("program", 1))
        self.assertEqual(programs_error(((), (("put", 1), None, None), (None,))), ("deed", 1, 1))

    def test_items_of_all_kinds(self):
        for item in odd_values():
            right = isinstance(item, tuple) and len(item) <= 8
            told = ("program", 1) if not right else ("deed", 1, 0) if item else None
            self.assertEqual(programs_error(((), item)), told)
            self.assertEqual(programs_error(((), (("put", 1), item))), ("deed", 1, 1))
            self.assertEqual(programs_error(((("put", item),),)), ("deed", 0, 0))
            self.assertEqual(programs_error((((item, 1),),)), ("deed", 0, 0))

    def test_values_of_all_kinds(self):
        for value in odd_values() + ["take 1", 4, [PAIR], {0: PAIR}, nested(20, PAIR), nested(40, PAIR)]:
            before = copy.deepcopy(value)
            told = programs_error(value)
            if not isinstance(value, tuple) or not 1 <= len(value) <= 5:
                self.assertEqual(told, "form")
            else:
                self.assertIn(told, (("program", 0), ("deed", 0, 0)))
            self.assertEqual(value, before)

    def test_what_is_told_is_made_of_plain_values(self):
        for value in ((None,), ((None,),)):
            told = programs_error(value)
            self.assertIs(type(told), tuple)
            self.assertEqual([type(item) for item in told], [str] + [int] * (len(told) - 1))


class SortsTest(unittest.TestCase):
    """[A9], [A11]: sorts, is_of and sort_of."""

    def test_the_four_sorts(self):
        self.assertEqual(sorts(), SORTS)
        self.assertIs(type(sorts()), tuple)
        for sort in sorts():
            self.assertIs(type(sort), tuple)

    def test_what_each_deed_asks(self):
        for word, number in DEEDS:
            programs = ((), (("put", 4), (word, number)))
            like, staying = word == "put" or number == 1, word != "wish"
            self.assertIs(is_of(programs, LIKE), like and staying)
            self.assertIs(is_of(programs, LIKE_LEAVING), like)
            self.assertIs(is_of(programs, ANY), staying)
            self.assertIs(is_of(programs, ANY_LEAVING), True)

    def test_one_deed_is_enough_wherever_it_stands(self):
        for hand, place in itertools.product(range(5), range(8)):
            for deed, told in ((("take", 2), ANY), (("wish", 1), LIKE_LEAVING), (("wish", 2), ANY_LEAVING),
                               (("take", 1), LIKE), (("put", 4), LIKE)):
                program = (("take", 1),) * place + (deed,) + (("put", 3),) * (7 - place)
                self.assertEqual(sort_of(((),) * hand + (program,) + ((),) * (4 - hand)), told)

    def test_two_deeds_of_unlike_hands(self):
        self.assertEqual(sort_of(((("take", 2),), (("wish", 1),))), ANY_LEAVING)
        self.assertEqual(sort_of(((("wish", 1),), (("take", 1),))), LIKE_LEAVING)
        self.assertEqual(sort_of(((("take", 3),), (("take", 1),))), ANY)

    def test_without_deeds(self):
        for many in range(1, 6):
            self.assertEqual(sort_of(((),) * many), LIKE)
            self.assertTrue(all(is_of(((),) * many, sort) is True for sort in SORTS))

    def test_sort_of_is_the_first_sort_that_they_are_of(self):
        for programs in small_programs() + mixed_programs(300, most=3):
            told = [sort for sort in sorts() if is_of(programs, sort)]
            self.assertEqual(sort_of(programs), told[0])
            self.assertIn(ANY_LEAVING, told)

    def test_of_each_sort_that_asks_less(self):
        for programs in small_programs() + mixed_programs(300, most=3):
            wants, stays = sort_of(programs)
            for sort in SORTS:
                less = sort[0] in (wants, "any") and sort[1] in (stays, "leaving")
                self.assertIs(is_of(programs, sort), less)

    def test_each_sort_comes(self):
        found = {sort_of(programs) for programs in small_programs()}
        self.assertEqual(found, set(SORTS))

    def test_arguments_by_name(self):
        self.assertIsNone(programs_error(value=PAIR))
        self.assertIs(is_of(sort=LIKE, programs=PAIR), True)
        self.assertIs(is_of(PAIR, sort=LIKE), True)
        self.assertEqual(sort_of(programs=PAIR), LIKE)


if __name__ == "__main__":
    unittest.main()
