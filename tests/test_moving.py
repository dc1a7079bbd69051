import unittest

from leftasleep.errors import BadMove
from leftasleep.moving import move_error, moved, moves
from samples import books_with, read_move, read_standing

PHASES = ("free", "late", "noted", "lying", "asleep", "woken", "calling", "storing", "passing", "yielding")
FREE_MARKS = (("no", ""), ("called", "woken tries|takes"), ("given", "woken given"))


class PhaseTest(unittest.TestCase):
    """What a hand does next, for all books that have the words that play a part in it."""

    def leads(self, words, standing, move, behind):
        """By all books that have these words the move leads from the one standing to the other one."""
        ahead, told, made = read_standing(standing), read_standing(behind), read_move(move)
        for book in books_with(words):
            self.assertIn(made, moves(book, ahead), (book, standing, move))
            self.assertEqual(moved(book, ahead, made), told, (book, standing, move))


class FreeTest(PhaseTest):
    """[B3]: the phase free."""

    def test_a_put(self):
        for number in (1, 2, 3, 4):
            deed = "put {}".format(number)
            for tokens in (0, 1, 5):
                ahead = "{} tokens; row 1; 0 free: {}, take 1; 1 asleep: take 1".format(tokens, deed)
                behind = "{} tokens; row 1; 0 calling: {}, take 1; 1 asleep: take 1"
                self.leads("put first", ahead, "0 on", behind.format(tokens + number, deed))
                self.leads("put last", ahead, "0 on", behind.format(tokens, deed))

    def test_a_put_where_tokens_are_below_nothing(self):
        self.leads("put first, woken takes", "-2 tokens; row; 0 free: put 1", "0 on",
                   "-1 tokens; row; 0 calling: put 1")
        self.leads("put last, woken takes", "-2 tokens; row; 0 free: put 1", "0 on", "-2 tokens; row; 0 calling: put 1")

    def test_a_first_try_with_nobody_on_the_row(self):
        for word in ("take", "wish"):
            for number in (1, 2, 3, 4):
                for tokens in range(6):
                    ahead = "{} tokens; row; 0 free: {} {}, put 3".format(tokens, word, number)
                    if tokens >= number:
                        behind = "{} tokens; row; 0 free: put 3".format(tokens - number)
                    else:
                        behind = "{} tokens; row; 0 late: {} {}, put 3".format(tokens, word, number)
                    self.leads("", ahead, "0 on", behind)

    def test_a_first_try_with_somebody_on_the_row(self):
        for word in ("take", "wish"):
            ahead = "2 tokens; row 1; 0 free: " + word + " {}; 1 asleep: take 3"
            late = "2 tokens; row 1; 0 late: " + word + " {}; 1 asleep: take 3"
            self.leads("comers free", ahead.format(2), "0 on", "0 tokens; row 1; 0 free:; 1 asleep: take 3")
            self.leads("comers free", ahead.format(3), "0 on", late.format(3))
            self.leads("comers behind", ahead.format(2), "0 on", late.format(2))
            self.leads("comers behind", ahead.format(1), "0 on", late.format(1))
            self.leads("comers behind", ahead.format(3), "0 on", late.format(3))

    def test_a_first_try_where_tokens_are_below_nothing(self):
        self.leads("woken takes", "-1 tokens; row; 0 free: take 1", "0 on", "-1 tokens; row; 0 late: take 1")

    def test_the_last_deed_of_a_hand(self):
        self.leads("", "1 tokens; row; 0 free: take 1", "0 on", "0 tokens; row; 0 free:")


class LateTest(PhaseTest):
    """[B3]: the phase late."""

    def test_it_is_put_on_the_end_of_the_row(self):
        for word in ("take", "wish"):
            for tokens in (0, 4):
                for note, phase in (("ahead", "noted"), ("behind", "asleep")):
                    begun = "{} tokens; row{}; 0 {}: {} 2, put 1; 1 {}: take 4; 2 {}: take 4"
                    self.leads("note " + note, begun.format(tokens, "", "late", word, "late", "late"), "0 on",
                               begun.format(tokens, " 0", phase, word, "late", "late"))
                    self.leads("note " + note, begun.format(tokens, " 2 1", "late", word, "asleep", "asleep"), "0 on",
                               begun.format(tokens, " 2 1 0", phase, word, "asleep", "asleep"))


class NotedTest(PhaseTest):
    """[B3]: the phase noted, with the last try."""

    def test_uncalled_and_tokens_are_enough(self):
        for word in ("take", "wish"):
            self.leads("", "3 tokens; row 0; 0 noted: " + word + " 2, put 1", "0 on", "1 tokens; row; 0 free: put 1")
            self.leads("", "2 tokens; row 0; 0 noted: " + word + " 2", "0 on", "0 tokens; row; 0 free:")

    def test_uncalled_and_first_on_the_row(self):
        ahead = "3 tokens; row 0 1; 0 noted: take 2; 1 asleep: take 4"
        self.leads("", ahead, "0 on", "1 tokens; row 1; 0 free:; 1 asleep: take 4")

    def test_uncalled_and_behind_others_on_the_row(self):
        for row, left in (("1 0", "1"), ("1 0 2", "1 2"), ("2 1 0", "2 1")):
            ahead = "3 tokens; row " + row + "; 0 {}; 1 asleep: take 4; 2 asleep: take 4"
            behind = "1 tokens; row " + left + "; 0 free:; 1 asleep: take 4; 2 asleep: take 4"
            self.leads("comers free", ahead.format("noted: take 2"), "0 on", behind)
            self.leads("comers behind", ahead.format("noted: take 2"), "0 on", ahead.format("lying: take 2"))

    def test_too_few_tokens(self):
        for tokens in (0, 1):
            for row in ("0 1", "1 0"):
                ahead = "{} tokens; row {}; 0 {}: take 2; 1 asleep: take 4"
                self.leads("", ahead.format(tokens, row, "noted"), "0 on", ahead.format(tokens, row, "lying"))
        self.leads("woken takes", "-1 tokens; row 0; 0 noted: take 1", "0 on", "-1 tokens; row 0; 0 lying: take 1")

    def test_called_and_too_few_tokens_keeps_its_mark(self):
        self.leads("woken tries|takes", "1 tokens; row 1; 0 noted called: wish 2; 1 asleep: take 4", "0 on",
                   "1 tokens; row 1; 0 lying called: wish 2; 1 asleep: take 4")

    def test_called_and_tokens_are_enough(self):
        called = "woken tries|takes, pass "
        some = "3 tokens; row 1; 0 noted called: take 2, put 1; 1 asleep: take 4"
        self.leads(called + "left|always", some, "0 on", "1 tokens; row 1; 0 passing: take 2, put 1; 1 asleep: take 4")
        self.leads(called + "never", some, "0 on", "1 tokens; row 1; 0 free: put 1; 1 asleep: take 4")
        self.leads(called + "never|left|always", "2 tokens; row 1; 0 noted called: take 2; 1 asleep: take 4", "0 on",
                   "0 tokens; row 1; 0 free:; 1 asleep: take 4")
        self.leads(called + "never|left|always", "3 tokens; row; 0 noted called: take 2; 1 late: take 4", "0 on",
                   "1 tokens; row; 0 free:; 1 late: take 4")

    def test_called_ones_stand_not_on_the_row_and_need_not_be_first(self):
        self.leads("woken tries|takes, comers behind, pass never", "3 tokens; row 1; 0 noted called: take 2; "
                   "1 asleep: take 4", "0 on", "1 tokens; row 1; 0 free:; 1 asleep: take 4")

    def test_uncalled_ones_pass_nothing_on(self):
        self.leads("comers free, pass left|always", "3 tokens; row 1 0; 0 noted: take 2; 1 asleep: take 4", "0 on",
                   "1 tokens; row 1; 0 free:; 1 asleep: take 4")

    def test_given(self):
        some = "1 tokens; row 1; 0 noted given: take 4, put 1; 1 asleep: take 4"
        given = "woken given, pass "
        self.leads(given + "left|always", some, "0 on", "1 tokens; row 1; 0 passing: take 4, put 1; 1 asleep: take 4")
        self.leads(given + "never", some, "0 on", "1 tokens; row 1; 0 free: put 1; 1 asleep: take 4")
        self.leads("woken given", "0 tokens; row 1; 0 noted given: take 4; 1 asleep: take 4", "0 on",
                   "0 tokens; row 1; 0 free:; 1 asleep: take 4")
        self.leads("woken given", "9 tokens; row; 0 noted given: take 4; 1 late: take 4", "0 on",
                   "9 tokens; row; 0 free:; 1 late: take 4")


class LyingTest(PhaseTest):
    """[B3]: the phase lying."""

    def test_without_a_mark_it_falls_asleep(self):
        for word in ("take", "wish"):
            ahead = "9 tokens; row 0 1; 0 {}: " + word + " 1; 1 lying: take 1"
            self.leads("", ahead.format("lying"), "0 on", ahead.format("asleep"))

    def test_a_mark_is_kept_or_lost(self):
        for mark, woken in FREE_MARKS[1:]:
            for tokens in (0, 9):
                ahead = str(tokens) + " tokens; row 1; 0 {} " + mark + ": take 1; 1 lying: take 1"
                self.leads(woken + ", call kept", ahead.format("lying"), "0 on", ahead.format("woken"))
                self.leads(woken + ", call lost", ahead.format("lying"), "0 on", ahead.format("asleep"))


class WokenTest(PhaseTest):
    """[B3]: the phase woken."""

    def test_given(self):
        some = "1 tokens; row 1; 0 woken given: wish 2, put 1; 1 asleep: take 4"
        self.leads("woken given, pass left|always", some, "0 on",
                   "1 tokens; row 1; 0 passing: wish 2, put 1; 1 asleep: take 4")
        self.leads("woken given, pass never", some, "0 on", "1 tokens; row 1; 0 free: put 1; 1 asleep: take 4")
        self.leads("woken given", "0 tokens; row 1; 0 woken given: wish 2; 1 asleep: take 4", "0 on",
                   "0 tokens; row 1; 0 free:; 1 asleep: take 4")
        self.leads("woken given", "3 tokens; row; 0 woken given: wish 2; 1 free:", "0 on",
                   "3 tokens; row; 0 free:; 1 free:")

    def test_takes_whatever_lies_there(self):
        for tokens in (-3, 0, 1, 2):
            ahead = "{} tokens; row 1; 0 woken called: take 2, put 1; 1 asleep: take 4"
            behind = "{} tokens; row 1; 0 free: put 1; 1 asleep: take 4"
            self.leads("woken takes", ahead.format(tokens), "0 on", behind.format(tokens - 2))

    def test_enough_is_taken(self):
        words = "woken tries|takes, pass "
        some = "3 tokens; row 1; 0 woken called: take 2, put 1; 1 asleep: take 4"
        self.leads(words + "left|always", some, "0 on", "1 tokens; row 1; 0 passing: take 2, put 1; 1 asleep: take 4")
        self.leads(words + "never", some, "0 on", "1 tokens; row 1; 0 free: put 1; 1 asleep: take 4")
        self.leads(words + "never|left|always", "2 tokens; row 1; 0 woken called: take 2; 1 asleep: take 4", "0 on",
                   "0 tokens; row 1; 0 free:; 1 asleep: take 4")
        self.leads(words + "never|left|always", "3 tokens; row; 0 woken called: take 2; 1 free:", "0 on",
                   "1 tokens; row; 0 free:; 1 free:")

    def test_too_few_and_it_goes_back(self):
        for note, phase in (("ahead", "noted"), ("behind", "asleep")):
            for tokens, others in ((1, "never|left"), (0, "never|left|always")):
                begun = "{} tokens; row {}; 0 {}: wish 2, put 1; 1 asleep: take 4; 2 asleep: take 4"
                ahead = begun.format(tokens, "2 1", "woken called")
                words = "woken tries, note " + note + ", pass " + others + ", fails "
                self.leads(words + "back", ahead, "0 on", begun.format(tokens, "2 1 0", phase))
                self.leads(words + "front", ahead, "0 on", begun.format(tokens, "0 2 1", phase))

    def test_too_few_and_nobody_on_the_row(self):
        for note, phase in (("ahead", "noted"), ("behind", "asleep")):
            for tokens in (0, 1):
                self.leads("woken tries, note " + note, "{} tokens; row; 0 woken called: take 2".format(tokens), "0 on",
                           "{} tokens; row 0; 0 {}: take 2".format(tokens, phase))

    def test_too_few_and_it_yields(self):
        for tokens in (1, 2):
            ahead = "{} tokens; row 1; 0 {}: take 3; 1 asleep: take 4"
            self.leads("woken tries, pass always", ahead.format(tokens, "woken called"), "0 on",
                       ahead.format(tokens, "yielding"))


class StoringTest(PhaseTest):
    """[B3]: the phase storing."""

    def test_tokens_are_stored(self):
        for tokens in (-1, 0, 3):
            for number in (1, 4):
                ahead = "{} tokens; row 1; 0 storing: put {}, wish 1; 1 asleep: take 4"
                self.leads("put last", ahead.format(tokens, number), "0 on",
                           "{} tokens; row 1; 0 free: wish 1; 1 asleep: take 4".format(tokens + number))


class AwayTest(PhaseTest):
    """[B3]: going away."""

    def test_uncalled_from_each_of_its_phases(self):
        for phase in ("noted", "lying", "asleep"):
            for row, left in (("0", ""), ("0 1", " 1"), ("1 0", " 1"), ("2 0 1", " 2 1")):
                ahead = "5 tokens; row {}; 0 {}: wish 2, put 1; 1 asleep: take 4; 2 asleep: take 4"
                behind = "5 tokens; row{}; 0 free: put 1; 1 asleep: take 4; 2 asleep: take 4"
                self.leads("", ahead.format(row, phase), "0 away", behind.format(left))

    def test_called_from_each_of_its_phases(self):
        for mark, woken, back in (("called", "woken tries|takes", 0), ("given", "woken given", 2)):
            for phase in ("noted", "lying", "asleep", "woken"):
                ahead = "1 tokens; row 1; 0 " + phase + " " + mark + ": wish 2, put 1; 1 asleep: take 4"
                behind = str(1 + back) + " tokens; row 1; 0 {}; 1 asleep: take 4"
                self.leads(woken + ", quits passes", ahead, "0 away", behind.format("passing: wish 2, put 1"))
                self.leads(woken + ", quits drops", ahead, "0 away", behind.format("free: put 1"))

    def test_called_and_nobody_on_the_row(self):
        for mark, woken, back in (("called", "woken tries|takes", 0), ("given", "woken given", 4)):
            for phase in ("noted", "lying", "asleep", "woken"):
                ahead = "1 tokens; row; 0 " + phase + " " + mark + ": wish 4; 1 late: take 4"
                self.leads(woken, ahead, "0 away", "{} tokens; row; 0 free:; 1 late: take 4".format(1 + back))

    def test_to_be_woken_or_to_have_a_mark_is_enough(self):
        for word, behind in (("passes", "passing: wish 2"), ("drops", "free:")):
            for state in ("woken", "noted called", "woken called"):
                self.leads("woken tries|takes, quits " + word,
                           "0 tokens; row 1; 0 " + state + ": wish 2; 1 asleep: take 4",
                           "0 away", "0 tokens; row 1; 0 " + behind + "; 1 asleep: take 4")

    def test_the_row_counts_and_not_the_tokens(self):
        self.leads("woken tries|takes, quits passes", "0 tokens; row 1; 0 woken called: wish 2; 1 asleep: take 4",
                   "0 away", "0 tokens; row 1; 0 passing: wish 2; 1 asleep: take 4")
        self.leads("woken takes, quits passes", "-3 tokens; row 1; 0 woken called: wish 2; 1 asleep: take 4",
                   "0 away", "-3 tokens; row 1; 0 passing: wish 2; 1 asleep: take 4")


class CallTest(PhaseTest):
    """[B3]: what calls do."""

    def test_what_becomes_of_those_who_are_called(self):
        for mark, woken, less in (("called", "woken tries|takes", 0), ("given", "woken given", 2)):
            for phase, then in (("noted", "noted"), ("lying", "lying"), ("asleep", "woken")):
                ahead = "3 tokens; row 0; 0 " + phase + ": wish 2, put 1; 1 calling: put 1"
                behind = str(3 - less) + " tokens; row; 0 " + then + " " + mark + ": wish 2, put 1; 1 {}"
                self.leads(woken + ", put first", ahead, "1 call 0", behind.format("free:"))
                self.leads(woken + ", put last", ahead, "1 call 0", behind.format("storing: put 1"))

    def test_many_are_called_one_behind_another(self):
        ahead = "4 tokens; row 2 0 1; 0 asleep: take 1; 1 noted: take 1; 2 lying: wish 2; 3 calling: put 3, put 1"
        for words, tokens, mark in (("woken tries|takes", 4, "called"), ("woken given", 0, "given")):
            told = "{} tokens; row; 0 woken {}: take 1; 1 noted {}: take 1; 2 lying {}: wish 2; 3 free: put 1"
            for move in ("3 call 2 0 1",):
                self.leads(words + ", many each|all, put first, order first", ahead, move,
                           told.format(tokens, mark, mark, mark))

    def test_nobody_is_on_the_row(self):
        for tokens in (0, 2):
            ahead = "{} tokens; row; 0 {}; 1 late: take 1"
            self.leads("put first", ahead.format(tokens, "calling: put 2, take 1"), "0 call",
                       ahead.format(tokens, "free: take 1"))
            self.leads("put last", ahead.format(tokens, "calling: put 2, take 1"), "0 call",
                       ahead.format(tokens, "storing: put 2, take 1"))
            self.leads("pass left|always", ahead.format(tokens, "passing: take 2, take 1"), "0 call",
                       ahead.format(tokens, "free: take 1"))

    def test_who_was_passing_is_done(self):
        ahead = "1 tokens; row 1; 0 passing: {} 2, put 1; 1 asleep: take 1"
        for word in ("take", "wish"):
            self.leads("woken tries|takes", ahead.format(word), "0 call 1",
                       "1 tokens; row; 0 free: put 1; 1 woken called: take 1")
            self.leads("woken given", ahead.format(word), "0 call 1",
                       "0 tokens; row; 0 free: put 1; 1 woken given: take 1")

    def test_who_was_yielding_goes_back_behind_its_calls(self):
        begun = "1 tokens; row {}; 0 {}: take 2, put 1; 1 {}: take 1; 2 asleep: take 1"
        ahead = begun.format("1 2", "yielding", "asleep")
        for note, phase in (("ahead", "noted"), ("behind", "asleep")):
            words = "woken tries, pass always, order first, note " + note + ", fails "
            self.leads(words + "back", ahead, "0 call 1", begun.format("2 0", phase, "woken called"))
            self.leads(words + "front", ahead, "0 call 1", begun.format("0 2", phase, "woken called"))

    def test_who_was_yielding_and_nobody_is_on_the_row_any_more(self):
        for note, phase in (("ahead", "noted"), ("behind", "asleep")):
            self.leads("woken tries, pass always, note " + note, "1 tokens; row; 0 yielding: take 2; 1 free:", "0 call",
                       "1 tokens; row 0; 0 {}: take 2; 1 free:".format(phase))

    def test_any_one_on_the_row(self):
        ahead = "1 tokens; row 1 2; 0 passing: take 1; 1 asleep: take 1; 2 lying: take 1"
        self.leads("woken tries|takes, order any", ahead, "0 call 2",
                   "1 tokens; row 1; 0 free:; 1 asleep: take 1; 2 lying called: take 1")

    def test_given_in_either_order(self):
        ahead = "2 tokens; row 0 1; 0 asleep: take 1; 1 asleep: take 1; 2 calling: put 2"
        behind = "0 tokens; row; 0 woken given: take 1; 1 woken given: take 1; 2 free:"
        for move in ("2 call 0 1", "2 call 1 0"):
            self.leads("woken given, many each|all, put first, order any", ahead, move, behind)


class MovesTest(unittest.TestCase):
    """[B3], [B5]: which moves there are in each phase."""

    def told(self, words, text):
        found = {moves(book, read_standing(text)) for book in books_with(words)}
        self.assertEqual(len(found), 1)
        return found.pop()

    def test_without_deeds(self):
        self.assertEqual(self.told("", "3 tokens; row; 0 free:; 1 free:"), ())

    def test_without_hands(self):
        for book in books_with(""):
            self.assertEqual(moves(book, (0, (), ())), ())

    def test_who_is_free_or_late_or_storing_can_go_on_alone(self):
        for deed in ("put 1", "take 1", "wish 1"):
            self.assertEqual(self.told("", "1 tokens; row; 0 free: " + deed), ((0, "on"),))
        for deed in ("take 1", "wish 1"):
            self.assertEqual(self.told("", "1 tokens; row; 0 late: " + deed), ((0, "on"),))
        self.assertEqual(self.told("", "1 tokens; row; 0 storing: put 1, wish 1"), ((0, "on"),))

    def test_takes_stay_and_wishes_may_go(self):
        for mark in ("", " called", " given"):
            for phase in ("noted", "lying", "woken"):
                text = "0 tokens; row" + ("" if mark else " 0") + "; 0 " + phase + mark + ": "
                self.assertEqual(self.told("", text + "take 1, wish 1"), ((0, "on"),))
                self.assertEqual(self.told("", text + "wish 1, take 1"), ((0, "away"), (0, "on")))
            text = "9 tokens; row" + ("" if mark else " 0") + "; 0 asleep" + mark + ": "
            self.assertEqual(self.told("", text + "take 1, wish 1"), ())
            self.assertEqual(self.told("", text + "wish 1, take 1"), ((0, "away"),))

    def test_who_calls_does_nothing_else(self):
        for phase, deed in (("calling", "put 1"), ("passing", "take 1"), ("passing", "wish 1"), ("yielding", "take 2"),
                            ("yielding", "wish 2")):
            text = "1 tokens; row 1; 0 {}: {}; 1 asleep: take 1".format(phase, deed)
            self.assertEqual(self.told("", text), ((0, "call", 1),))
            self.assertEqual(self.told("", text.replace("row 1", "row").replace("asleep", "late")),
                             ((0, "call"), (1, "on")))

    def test_they_are_ascending(self):
        text = ("2 tokens; row 2 0 1; 0 noted: wish 1; 1 lying: wish 1; 2 asleep: wish 1; 3 calling: put 2; "
                "4 free: take 1")
        self.assertEqual(self.told("many each, woken given, order any", text),
                         ((0, "away"), (0, "on"), (1, "away"), (1, "on"), (2, "away"), (3, "call", 0, 1),
                          (3, "call", 0, 2), (3, "call", 1, 0), (3, "call", 1, 2), (3, "call", 2, 0), (3, "call", 2, 1),
                          (4, "on")))
        self.assertEqual(self.told("many all, woken tries|takes, order first", text)[5:-1], ((3, "call", 2, 0, 1),))

    def test_they_are_tuples(self):
        for book in books_with("")[::100]:
            found = moves(book, read_standing("2 tokens; row 0 1; 0 noted: wish 1; 1 asleep: wish 1; 2 calling: put 2"))
            self.assertIs(type(found), tuple)
            for move in found:
                self.assertEqual([type(item) for item in move], [int, str] + [int] * (len(move) - 2))

    def test_arguments_by_name(self):
        book, standing = books_with("")[0], read_standing("0 tokens; row; 0 free: put 1")
        self.assertEqual(moves(standing=standing, book=book), ((0, "on"),))
        self.assertIsNone(move_error(value=(0, "on"), standing=standing, book=book))
        self.assertEqual(moved(value=(0, "on"), standing=standing, book=book),
                         read_standing("1 tokens; row; 0 calling: put 1"))


class RefusedTest(unittest.TestCase):
    """[B5]: moved where a move cannot be made."""

    def test_moved_raises_what_move_error_tells(self):
        standing = read_standing("0 tokens; row 0; 0 asleep: take 1; 1 calling: put 1")
        for book in books_with("")[::50]:
            for value, error in (((0, "on"), "closed"), ((1, "call", 1), "closed"), (None, "form"), ([0, "on"], "form"),
                                 ((True, "call", 0), "form"), ((1, "call", 0, 0), "form")):
                with self.assertRaises(BadMove) as held:
                    moved(book, standing, value)
                self.assertEqual(held.exception.error, error)
                self.assertEqual(move_error(book, standing, value), error)


if __name__ == "__main__":
    unittest.main()
