import copy
import itertools
import time
import unittest

from leftasleep.books import turned
from leftasleep.errors import BadBook, BadLog, BadText
from leftasleep.halllogs import hall_behind, log_text, read_log
from leftasleep.halls import Hall
from leftasleep.knownbooks import careless, hand_off, notify_all, notify_one
from hallsteps import NAMES, hall_of, shown
from samples import BOOK_NAMES, BOOK_WORDS, DEEDS, Row
from values import nested, odd_values

TAKE, PUT = ("take", 1), ("put", 1)
WORDS = [(name, word) for name, words in zip(BOOK_NAMES, BOOK_WORDS) for word in words]


def all_moves():
    """All moves by names of three hands, and some of more."""
    names = ("ann", "on", "z")
    calls = [(name, "call") + called for name in names for many in range(4)
             for called in itertools.permutations(names, many)]
    return [(name, word) for name in names for word in ("on", "away")] + calls + [
        ("a", "call") + tuple("abcdefghijklmnopqrstuvwxyz"), ("abcdefghijkl", "call", "abcdefghijkl")]


def all_edits():
    """Edits of all kinds, whether they can be made or not."""
    return ([("come", name) for name in NAMES + ("z", "abcdefghijkl")] + [("ask", "bob", deed) for deed in DEEDS]
            + [("go", move) for move in all_moves()] + [("turn",) + pair for pair in WORDS] + [("rest",)])


def some_logs(count):
    numbers, edits = Row(count), all_edits()
    return [tuple(numbers.one_of(edits) for _ in range(numbers.below(15))) for _ in range(count)]


class LogTextTest(unittest.TestCase):
    """[I3]: log_text."""

    def test_each_kind_of_edit(self):
        for edit, text in ((("come", "ann"), "come ann"), (("ask", "bob", ("wish", 3)), "ask bob wish 3"),
                           (("go", ("ann", "on")), "go ann on"), (("go", ("on", "away")), "go on away"),
                           (("go", ("bob", "call")), "go bob call"), (("rest",), "rest"),
                           (("go", ("bob", "call", "cy", "ann")), "go bob call cy ann"),
                           (("turn", "many", "each"), "turn many each")):
            self.assertEqual(log_text((edit,)), text)
            self.assertEqual(log_text((edit, edit)), text + "\n" + text)

    def test_no_edits(self):
        self.assertEqual(log_text(()), "")

    def test_unlike_logs_have_unlike_texts(self):
        logs = set(some_logs(1000)) | {(edit,) for edit in all_edits()}
        self.assertEqual(len({log_text(log) for log in logs}), len(logs))

    def test_arguments_by_name(self):
        self.assertEqual((log_text(log=(("rest",),)), read_log(value="rest")), ("rest", (("rest",),)))
        self.assertEqual(hall_behind(value=(), book=notify_one()), Hall(notify_one()))


class ReadLogTest(unittest.TestCase):
    """[I3]: read_log."""

    def assert_bad(self, value, place):
        with self.assertRaises(BadText) as held:
            read_log(value)
        self.assertEqual(held.exception.place, place, value)
        self.assertIs(type(held.exception.place), int)

    def test_logs_are_read_back(self):
        for log in some_logs(400) + [(edit,) for edit in all_edits()] + [tuple(all_edits()[:100])]:
            self.assertEqual(read_log(log_text(log)), log)
        self.assertEqual(read_log(""), ())

    def test_what_is_read_is_made_of_tuples_strings_and_integers(self):
        log = read_log("ask ann put 1\ngo ann call bob")
        self.assertEqual([type(item) for edit in log for item in edit], [str, str, tuple, str, tuple])
        self.assertEqual([type(item) for item in log[0][2]], [str, int])

    def test_lines_that_are_no_edits(self):
        wrong = ("", " ", "come", "come ", "come  ann", " come ann", "come ann ", "come Ann", "come a1", "come ann bob",
                 "come abcdefghijklm", "Come ann", "comes ann", "ann come", "ask", "ask ann", "ask ann put",
                 "ask ann put 0", "ask ann put 5", "ask ann put 01", "ask ann put 1 ", "ask ann put  1", "ask ann Put 1",
                 "ask ann give 1", "ask put 1", "ask Ann put 1", "ask ann put1", "ask ann put 1 take 1",
                 "ask ann put 1, take 1", "ask ann put -1", "ask ann put one", "ask  put 1", "go", "go ann", "go ann sleep",
                 "go ann on bob", "go ann on ", "go ann away bob", "go Ann on", "go ann On", "go on ann", "go ann call bob bob",
                 "go ann call ann bob ann", "go ann call Bob", "go ann call ", "go ann call  bob", "go  on", "go ann  on",
                 "go 0 on", "go ann call 1", "ann on", "on ann", "call ann bob", "turn", "turn many", "turn many some",
                 "turn many first", "turn manys one", "turn many one ", "turn  many one", "turn many one all",
                 "turn Many one", "turn one many", "turn many ", "turn  one", "rest ", " rest", "Rest", "rests", "rest 1",
                 "rest rest", "undo", "show", "hall one", "rest\t", "come ann\r", "go ann, on", "(rest)", "('rest',)")
        for line in wrong:
            for place in (0, 1, 7):
                for behind in ([], ["rest"], [""]):
                    if line == "" and place == 0 and not behind:
                        continue
                    self.assert_bad("\n".join(["go ann call bob"] * place + [line] + behind), place)

    def test_line_feeds_that_are_wrong(self):
        self.assert_bad("rest\n", 1)
        self.assert_bad("\nrest", 0)
        self.assert_bad("\n", 0)
        self.assert_bad("rest\n\nrest", 1)
        self.assert_bad("rest\r\nrest", 0)
        self.assert_bad("rest; rest", 0)

    def test_a_hundred_lines_and_one_more(self):
        for many in (99, 100):
            self.assertEqual(read_log("\n".join(["rest"] * many)), (("rest",),) * many)
        for more in ("rest", "", "x", "rest\nrest", "x\ny"):
            self.assert_bad("\n".join(["rest"] * 100 + [more]), 100)
        self.assert_bad("\n".join(["rest"] * 99 + ["x"] + ["rest"] * 5), 99)
        self.assert_bad("\n".join(["x"] * 500), 0)
        self.assert_bad("rest\n" * 4000, 100)

    def test_what_is_no_string(self):
        log = (("come", "ann"),)
        for value in odd_values() + [log, list(log), ["rest"], ("rest",), {"rest": 1}, b"rest", nested(20, "rest")]:
            if value == "":
                continue
            before = copy.deepcopy(value)
            self.assert_bad(value, 0)
            self.assertEqual(value, before)

    def test_long_texts(self):
        begun = time.process_time()
        for text in ("a" * 20000, " " * 20000, "\n" * 20000, "go ann call" + " bob" * 4000, "come " * 4000):
            self.assert_bad(text, 0)
        self.assert_bad("ask ann put 1\n" * 1400, 100)
        self.assertLess(time.process_time() - begun, 1)

    def test_many_names_that_are_unlike(self):
        names = tuple("n" + one + two + three for one in "abcdefghij" for two in "abcdefghij" for three in "abcdefghij")
        log = (("go", ("ann", "call") + names),)
        self.assertEqual(read_log(log_text(log)), log)
        self.assert_bad(log_text(log) + " naaa", 0)


class HallBehindTest(unittest.TestCase):
    """[I3]: hall_behind."""

    def assert_bad(self, value, place, book=notify_one()):
        before = copy.copy(value)
        with self.assertRaises(BadLog) as held:
            hall_behind(book, value)
        self.assertEqual(held.exception.place, place)
        self.assertEqual(value, before)

    def test_each_kind_of_edit(self):
        log = (("come", "ann"), ("come", "bob"), ("turn", "many", "all"), ("ask", "ann", TAKE), ("ask", "bob", PUT),
               ("go", ("bob", "on")), ("go", ("bob", "call")), ("rest",))
        hall = hall_behind(notify_one(), log)
        self.assertEqual((hall.log(), hall.names(), hall.book()), (log, ("ann", "bob"), turned(notify_one(), "many", "all")))
        self.assertEqual(hall.standing(), (0, (), (((), "free", "no"),) * 2))
        for end in range(len(log)):
            self.assertEqual(hall_behind(notify_one(), log[:end]).log(), log[:end])
        self.assertIsInstance(hall, Hall)

    def test_no_edits(self):
        for book in (notify_one(), notify_all(), hand_off(), careless()):
            self.assertEqual(shown(hall_behind(book, ())), shown(Hall(book)))

    def test_it_can_be_undone(self):
        hall = hall_behind(notify_one(), (("come", "ann"), ("ask", "ann", TAKE), ("rest",)))
        hall.undo()
        self.assertEqual(shown(hall), shown(hall_of(notify_one(), (TAKE,))))

    def test_each_call_tells_a_hall_of_its_own(self):
        log = (("come", "ann"),)
        one, other = hall_behind(notify_one(), log), hall_behind(notify_one(), log)
        one.come("bob")
        self.assertEqual((other.names(), log), (("ann",), (("come", "ann"),)))

    def test_what_is_no_book(self):
        for value in odd_values() + [notify_one()[:9], list(notify_one()), Hall(notify_one())]:
            for log in ((), (("come", "ann"),), None, [], (None,), ((),) * 101):
                self.assertRaises(BadBook, hall_behind, value, log)
        with self.assertRaises(BadBook) as held:
            hall_behind(notify_one()[:9] + ("last",), None)
        self.assertEqual(held.exception.error, ("entry", "order"))

    def test_what_is_no_log(self):
        for value in odd_values() + [[("come", "ann")], "rest", {"rest": 1}, None, [], nested(19, ("rest",))]:
            if not isinstance(value, tuple):
                self.assert_bad(value, -1)
            elif value != ():
                self.assert_bad(value, -1 if len(value) > 100 else 0)

    def test_a_hundred_edits_and_one_more(self):
        hall = hall_behind(notify_one(), (("rest",),) * 100)
        self.assertEqual(len(hall.log()), 100)
        self.assert_bad((("rest",),) * 101, -1)
        self.assert_bad((None,) * 101, -1)
        self.assert_bad((("rest",),) * 99 + (("go", ("ann", "on")),), 99)

    def test_what_is_no_edit(self):
        wrong = [(), ("come",), ("come", "ann", "bob"), ("come", "Ann"), ("come", None), ["come", "cy"], "rest", "come cy",
                 ("rest", None), ("rest", ()), ["rest"], ("ask", "ann"), ("ask", "ann", "take 1"), ("ask", "ann", ["take", 1]),
                 ("ask", "ann", ("take", 5)), ("ask", "ann", ("take", True)), ("ask", "ann", "take", 1), ("ask", TAKE, "ann"),
                 ("go",), ("go", "ann", "on"), ("go", ["ann", "on"]), ("go", ("ann",)), ("go", (0, "on")), ("go", ()),
                 ("go", ("ann", "on", "ann")), ("turn", "many"), ("turn", "many", "some"), ("turn", "many", "one", "all"),
                 ("turn", ("many", "one")), ("undo",), ("twin",), ("names",), ("standing",), ("book",), (None,), None, 0,
                 ("Rest",), ("rests",), (("rest",),), ("", ), ("come", ("cy",)), ("__init__", notify_one())]
        ahead = (("come", "ann"), ("ask", "ann", TAKE))
        for edit in wrong + odd_values():
            for behind in ((), (("rest",),), (None,)):
                self.assert_bad(ahead + (edit,) + behind, 2)
                self.assert_bad((edit,) + behind, 0)

    def test_what_cannot_be_made(self):
        ahead = (("come", "ann"), ("ask", "ann", TAKE))
        for edit in (("come", "ann"), ("ask", "bob", TAKE), ("go", ("ann", "away")), ("go", ("bob", "on")),
                     ("go", ("ann", "call"))):
            self.assert_bad(ahead + (edit, ("rest",)), 2)
        self.assert_bad(ahead + (("go", ("ann", "on")), ("turn", "many", "all")), 3)
        self.assert_bad(ahead + (("ask", "ann", PUT),) * 8, 9)
        self.assert_bad(tuple(("come", name) for name in ("a", "b", "c", "d", "e", "f")), 5)

    def test_the_first_wrong_edit_is_told(self):
        self.assert_bad((("come", "ann"), ("ask", "eve", TAKE), None), 1)

    def test_what_can_be_made_hangs_on_the_book(self):
        log = (("come", "ann"), ("come", "bob"), ("ask", "ann", TAKE), ("ask", "bob", PUT), ("go", ("ann", "on")),
               ("go", ("ann", "on")), ("go", ("bob", "on")), ("go", ("bob", "call", "ann")), ("go", ("bob", "on")))
        self.assertEqual(hall_behind(careless(), log).log(), log)
        self.assert_bad(log, 8)
        self.assertEqual(hall_behind(notify_one(), log[:8]).log(), log[:8])

    def test_it_takes_no_long(self):
        always = turned(turned(notify_all(), "pass", "always"), "order", "any")
        hall = hall_of(always, *[(("take", 4),) * 8] * 4, (PUT,))
        while len(hall.log()) < 100:
            hall.rest()
        begun = time.process_time()
        self.assertEqual(hall_behind(always, hall.log()), hall)
        self.assertLess(time.process_time() - begun, 4)


if __name__ == "__main__":
    unittest.main()
