import copy
import time
import unittest

from leftasleep.books import book_of
from leftasleep.booktexts import book_text
from leftasleep.errors import SleepError
from leftasleep.good import lacks
from leftasleep.halllogs import hall_behind
from leftasleep.halls import Hall
from leftasleep.knownbooks import careless, hand_off, notify_all, notify_one
from leftasleep.shells import Shell
from leftasleep.standings import standing_text
from hallsteps import NAMES, gone_along, make, some_edit
from samples import BOOK_NAMES, BOOK_WORDS, BOOKS, DEEDS, Row
from values import nested, odd_values

SHOWING = ("show", "names", "can", "trouble", "book", "lacks")
NO_LINES = (
    "", " ", "what?", "show ", " show", "Show", "SHOW", "show show", "shows", "names ", "names ann", "can ", "cans",
    "trouble ", "trouble ann", "book ", "book one", "books", "lacks ", "lacks like", "undo ", " undo", "undo 1", "rest ",
    "rest 1", "Rest", "come", "come ", "come  ann", " come ann", "come ann ", "come Ann", "come ann bob", "come a1",
    "come abcdefghijklm", "Come ann", "come 0", "ask", "ask ann", "ask ann take", "ask ann take 0", "ask ann take 5",
    "ask ann take 01", "ask ann take 1 ", "ask ann  take 1", "ask Ann take 1", "ask ann Take 1", "ask ann give 1",
    "ask ann take 10", "ask ann take -1", "ask ann take one", "ask ann take 1 put 1", "ask take 1", "on", "on ", "on  ann",
    "On ann", "ON ann", "on Ann", "on ann bob", "on ann ", "on 0", "away", "away ", "away ann bob", "away  ann",
    "Away ann", "away Ann", "call", "call ", "call  ann", "call ann ", "call ann  bob", "Call ann", "call Ann",
    "call ann Bob", "call ann 1", "call 0 1", "ann on", "ann call bob", "go ann on", "go", "go ann call bob", "turn",
    "turn many", "turn many ", "turn many some", "turn many first", "turn Many one", "turn many One", "turn  many one",
    "turn many  one", "turn many one ", "turn one many", "turn many one all", "hall", "Hall one", "halls one", " hall one",
    "hallone", "show\n", "\nshow", "come ann\n", "come\nann", "come ann\ncome bob", "rest\nrest", "on\tann", "twin", "log",
    "standing", "help", "(come, ann)", "come, ann", "come ann; come bob",
)
NO_HALLS = ("hall ", "hall  ", "hall two", "hall One", "hall ONE", "hall one ", "hall  one", "hall one all", "hall 3456",
            "hall 03", "hall 00", "hall 0000", "hall 007", "hall -1", "hall +1", "hall -0", "hall 1.0", "hall 1_0",
            "hall 10000", "hall 1 2", "hall 1 ", "hall  1", "hall notify_one", "hall hand_off", "hall None", "hall True",
            "hall careless ", "hall one\n", "hall 1\n", "hall \n1", "hall 0x1", "hall 1e3", "hall " + "9" * 19000,
            "hall " + "0" * 19000, "hall first", "hall a")


def said(shell, *lines):
    return [shell.say(line) for line in lines]


def looked(shell):
    """All that a shell shows of its hall."""
    return said(shell, *SHOWING)


def line_of(edit):
    """The line that asks for the edit."""
    if edit[0] == "go":
        name, word, *called = edit[1]
        return " ".join([word, name] + called)
    return " ".join(str(part) for item in edit for part in (item if isinstance(item, tuple) else (item,)))


def answer(hall, edit):
    """What a shell answers to the line of this edit, told by a hall; the hall makes the edit."""
    told = make(hall, edit)
    if isinstance(told, SleepError):
        words = {"TooMany": "many", "TooManyEdits": "full", "NothingToUndo": "nothing"}
        name = type(told).__name__
        return "no: " + (words[name] if name in words else told.word if name == "Refused" else told.error)
    return "{} moves".format(len(told)) if edit == ("rest",) else "{} edits".format(len(hall.log()))


class NoHallTest(unittest.TestCase):
    """[J1]: a shell without a hall."""

    def test_no_hall(self):
        shell = Shell()
        for line in NO_LINES + SHOWING + ("undo", "rest", "come ann", "ask ann take 1", "on ann", "turn many all"):
            self.assertEqual(shell.say(line), "no hall", line)

    def test_what_is_no_string(self):
        shell = Shell()
        for value in odd_values() + [["hall one"], ("hall one",), ("hall", "one"), {"hall one": 1}, Hall(notify_one())]:
            self.assertEqual(shell.say(value), "no hall")

    def test_halls_that_are_none(self):
        shell = Shell()
        for line in NO_HALLS:
            self.assertEqual(shell.say(line), "what?", line)
        self.assertEqual(shell.say("show"), "no hall")

    def test_each_new_hall(self):
        for line, book in (("one", notify_one()), ("all", notify_all()), ("off", hand_off()), ("careless", careless())):
            self.assertEqual(said(Shell(), "hall " + line), ["0 edits"])
            shell = Shell()
            self.assertEqual(said(shell, "hall " + line, "book"), ["0 edits", book_text(book)])

    def test_halls_by_number(self):
        shell = Shell()
        for number in list(range(12)) + list(range(12, 3456, 97)) + [99, 100, 999, 1000, 3455]:
            self.assertEqual(said(shell, "hall {}".format(number), "book"), ["0 edits", book_text(book_of(number))])


class LineTest(unittest.TestCase):
    """[J1]: each line of the table."""

    def shell(self, *lines):
        shell = Shell()
        for line in lines:
            self.assertRegex(shell.say(line), r"\A[0-9]+ (edits|moves)\Z", line)
        return shell

    def test_come_and_names(self):
        shell = self.shell("hall one")
        self.assertEqual(said(shell, "names", "come zoe", "names", "come ann", "names"),
                         ["-", "1 edits", "zoe", "2 edits", "zoe ann"])

    def test_ask_each_deed(self):
        for word, number in DEEDS:
            shell = self.shell("hall one", "come ann", "ask ann {} {}".format(word, number))
            self.assertEqual(shell.say("show"), "0 tokens; row; 0 free: {} {}".format(word, number))

    def test_moves_and_can(self):
        shell = self.shell("hall one", "come ann", "come bob", "ask ann wish 1", "ask bob put 1")
        self.assertEqual(said(shell, "can", "on ann", "on ann", "can", "on ann", "on ann", "can", "on bob", "can"),
                         ["ann on; bob on", "5 edits", "6 edits", "ann away; ann on; bob on", "7 edits", "8 edits",
                          "ann away; bob on", "9 edits", "ann away; bob call ann"])
        self.assertEqual(said(shell, "call bob ann", "can", "away ann", "can", "show"),
                         ["10 edits", "ann away; ann on", "11 edits", "-", "1 tokens; row; 0 free:; 1 free:"])

    def test_calls_with_many_names_and_with_none(self):
        shell = self.shell("hall all", "come ann", "come bob", "come cy", "ask ann take 1", "ask bob take 1", "ask cy put 1")
        self.assertEqual(said(shell, "on cy", "can", "call cy", "ask cy put 2"), ["7 edits", "ann on; bob on; cy call", "8 edits", "9 edits"])
        shell = self.shell("hall all", "come ann", "come bob", "come cy", "ask ann take 1", "ask bob take 1", "ask cy put 1",
                           "rest", "ask bob take 2", "ask ann take 1", "rest", "ask cy put 2", "on cy")
        self.assertEqual(said(shell, "can", "call cy ann bob", "call cy bob ann"),
                         ["cy call bob ann", "no: closed", "13 edits"])

    def test_turn_and_book(self):
        for name, words in zip(BOOK_NAMES, BOOK_WORDS):
            for word in words:
                shell = self.shell("hall one", "turn {} {}".format(name, word))
                self.assertIn("{} {}".format(name, word), shell.say("book").split(", "))

    def test_rest(self):
        shell = self.shell("hall one", "come ann", "ask ann take 1")
        self.assertEqual(said(shell, "rest", "rest", "undo", "undo", "show"),
                         ["4 moves", "0 moves", "3 edits", "2 edits", "0 tokens; row; 0 free: take 1"])
        shell = self.shell("hall 16", "come ann", "come bob", "come cy", "ask ann take 2", "ask bob take 2", "ask cy put 1")
        self.assertEqual(said(shell, "rest", "undo"), ["400 moves", "6 edits"])

    def test_undo(self):
        shell = self.shell("hall one", "come ann", "turn many all", "ask ann put 1", "on ann", "call ann")
        self.assertEqual(said(shell, *["undo"] * 7),
                         ["4 edits", "3 edits", "2 edits", "1 edits", "0 edits", "no: nothing", "no: nothing"])
        self.assertEqual(looked(shell), looked(self.shell("hall one")))

    def test_show_without_hands(self):
        self.assertEqual(looked(self.shell("hall one"))[:4], ["0 tokens; row", "-", "-", "none"])

    def test_trouble(self):
        shell = self.shell("hall careless", "come ann", "come bob", "ask ann take 1", "ask bob put 1", "on ann", "on ann",
                           "on bob", "call bob ann")
        self.assertEqual(said(shell, "trouble", "on ann", "trouble", "on bob", "trouble"),
                         ["none", "9 edits", "overdrawn", "10 edits", "none"])
        shell = self.shell("hall one", "come zoe", "come mia", "come ann", "come bob", "ask zoe take 2", "ask mia take 1",
                           "ask ann take 1", "ask bob put 1", "rest")
        self.assertEqual(shell.say("trouble"), "asleep mia ann")

    def test_lacks(self):
        self.assertEqual(self.shell("hall all").say("lacks"),
                         "like staying: nothing; like leaving: nothing; any staying: nothing; any leaving: nothing")
        self.assertEqual(self.shell("hall one").say("lacks"),
                         "like staying: nothing; like leaving: nothing; any staying: many; any leaving: many")
        for number in range(0, 3456, 83):
            told = ["{} {}: {}".format(*sort, " ".join(lacks(book_of(number), sort)) or "nothing") for sort in (
                ("like", "staying"), ("like", "leaving"), ("any", "staying"), ("any", "leaving"))]
            self.assertEqual(self.shell("hall {}".format(number)).say("lacks"), "; ".join(told))

    def test_names_that_are_words_of_lines(self):
        shell = self.shell("hall one", "come on", "come call", "come come", "ask on take 1", "ask call put 1", "on on")
        self.assertEqual(said(shell, "names", "can", "on call", "call call", "away on", "call call call"),
                         ["on call come", "on on; call on", "7 edits", "8 edits", "no: closed", "no: closed"])

    def test_a_new_hall_in_place_of_the_old_one(self):
        shell = self.shell("hall one", "come ann", "come bob")
        self.assertEqual(said(shell, "hall 9", "names", "undo", "book"), ["0 edits", "-", "no: nothing", book_text(book_of(9))])


class RefusalTest(unittest.TestCase):
    """[J1], [J2]: each refusal, and lines that are none; they change nothing."""

    def assert_changes_nothing(self, shell, lines, told):
        before = looked(shell)
        for line in lines:
            self.assertEqual(shell.say(line), told, line)
            self.assertEqual(looked(shell), before)

    def test_each_refusal(self):
        shell = Shell()
        said(shell, "hall one", "come ann", "come bob", "ask ann take 1", "ask bob put 1", "on ann")
        for lines, told in ((("come ann", "come bob"), "no: known"), (("ask eve put 1", "ask anna take 4"), "no: unknown"),
                            (("turn note ahead", "turn many all"), "no: waiting"),
                            (("on eve", "away eve", "call eve", "call bob eve", "call bob ann ann", "call eve bob",
                              "call bob bob bob"), "no: form"),
                            (("away ann", "away bob", "call bob", "call bob ann", "call ann bob", "call ann"), "no: closed")):
            self.assert_changes_nothing(shell, lines, told)
        said(shell, "come cy", "come dan", "come eve")
        self.assert_changes_nothing(shell, ("come fay", "come abcdefghijkl"), "no: many")
        said(shell, *["ask cy put 1"] * 8)
        self.assert_changes_nothing(shell, ("ask cy put 1", "ask cy wish 4"), "no: many")
        self.assertEqual(Shell().say("undo"), "no hall")

    def test_full_comes_behind_all_others(self):
        shell = Shell()
        said(shell, "hall one", "come ann", "come bob", "ask ann wish 1", "on ann")
        self.assertEqual(said(shell, *["rest"] * 96)[-1], "0 moves")
        self.assert_changes_nothing(shell, ("rest", "come cy", "ask ann put 1", "away ann"), "no: full")
        for line, told in (("come ann", "no: known"), ("ask cy put 1", "no: unknown"), ("on cy", "no: form"),
                           ("on ann", "no: closed"), ("turn note ahead", "no: waiting"), ("come Cy", "what?")):
            self.assert_changes_nothing(shell, (line,), told)
        self.assertEqual(said(shell, "undo", "away ann", "turn note ahead"), ["99 edits", "100 edits", "no: full"])

    def test_lines_that_are_none(self):
        shell = Shell()
        said(shell, "hall one", "come ann", "come bob", "ask ann take 1")
        self.assert_changes_nothing(shell, NO_LINES + NO_HALLS, "what?")

    def test_what_is_no_string(self):
        shell = Shell()
        said(shell, "hall one", "come ann", "come bob", "ask ann take 1")
        values = odd_values() + [["show"], ("show",), ("come", "cy"), {"show": 1}, [], nested(20, "show"), Hall(careless())]
        for value in values:
            before = copy.deepcopy(value)
            self.assert_changes_nothing(shell, (value,), "what?")
            self.assertEqual(value, before)

    def test_long_lines(self):
        shell = Shell()
        said(shell, "hall one", "come ann", "come bob")
        begun = time.process_time()
        self.assert_changes_nothing(shell, ("a" * 20000, " " * 20000, "\n" * 20000, "come " + "a" * 19000,
                                            "hall " + "1" * 19000, "ask ann put " + "1" * 19000), "what?")
        self.assert_changes_nothing(shell, ("call ann" + " bob" * 4900,), "no: form")
        self.assertLess(time.process_time() - begun, 1)


class HoldsTest(unittest.TestCase):
    """[J2]: what holds of shells."""

    def test_as_halls_tell(self):
        numbers = Row(61)
        for number in range(0, 3456, 31):
            shell, hall = Shell(), Hall(book_of(number))
            self.assertEqual(shell.say("hall {}".format(number)), "0 edits")
            for name in NAMES[:1 + numbers.below(5)]:
                self.assertEqual(shell.say("come " + name), answer(hall, ("come", name)))
            for _ in range(70):
                edit = ("undo",) if numbers.below(12) == 0 else some_edit(hall, numbers)
                self.assertEqual(shell.say(line_of(edit)), answer(hall, edit))
                self.assertEqual(shell.say("show"), standing_text(hall.standing()))
            self.assertEqual(shell.say("names"), " ".join(hall.names()) or "-")
            self.assertEqual(shell.say("can"), "; ".join(" ".join(move) for move in hall.can()) or "-")
            self.assertEqual(shell.say("book"), book_text(hall.book()))
            again = hall_behind(book_of(number), hall.log())
            self.assertEqual(shell.say("show"), standing_text(again.standing()))

    def test_two_shells_beside_one_another(self):
        numbers = Row(62)
        for book in BOOKS[::211]:
            lines = [line_of(edit) for edit in gone_along(book, numbers, 40).log()]
            first, second, alone = Shell(), Shell(), Shell()
            start = "hall {}".format(BOOKS.index(book))
            told = said(alone, *[start] + lines)
            other = said(Shell(), "hall careless", *lines[::-1])
            beside = [(first.say(one), second.say(two)) for one, two in zip([start] + lines, ["hall careless"] + lines[::-1])]
            self.assertEqual([one for one, _ in beside], told)
            self.assertEqual([two for _, two in beside], other)
            self.assertEqual(looked(first), looked(alone))

    def test_answers_are_strings(self):
        shell = Shell()
        for line in ("show", "hall one", None, "come ann", "show", "names", "can", "trouble", "book", "lacks", "rest", "undo"):
            self.assertIs(type(shell.say(line)), str)

    def test_arguments_by_name(self):
        shell = Shell()
        self.assertEqual([shell.say(line="hall one"), shell.say(line=None)], ["0 edits", "what?"])

    def test_each_line_takes_no_long(self):
        shell = Shell()
        said(shell, "hall 17", "come ann", "come bob", "come cy", "come dan", "come eve")
        for name in ("ann", "bob", "cy", "dan"):
            said(shell, *["ask {} take 2".format(name)] * 4)
        said(shell, "ask eve put 1", *["rest"] * 76)
        for line in SHOWING + ("rest", "undo", "rest", "come ann", "hall 3455"):
            begun = time.process_time()
            shell.say(line)
            self.assertLess(time.process_time() - begun, 0.7)


if __name__ == "__main__":
    unittest.main()
