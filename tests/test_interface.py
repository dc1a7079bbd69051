import ast
import importlib
import inspect
import pathlib
import unittest

PACKAGE = pathlib.Path(__file__).resolve().parent.parent / "leftasleep"

# What the interface lists so far: for each file its functions with the names of their arguments.
FUNCTIONS = {
    "books": {
        "entries": (),
        "book_error": ("value",),
        "word_of": ("book", "name"),
        "turned": ("book", "name", "word"),
        "number_of": ("book",),
        "book_of": ("value",),
    },
    "knownbooks": {"notify_one": (), "notify_all": (), "hand_off": (), "careless": ()},
    "booktexts": {"book_text": ("book",), "read_book": ("value",)},
    "programs": {
        "programs_error": ("value",),
        "sorts": (),
        "is_of": ("programs", "sort"),
        "sort_of": ("programs",),
    },
    "programtexts": {"programs_text": ("programs",), "read_programs": ("value",)},
    "standings": {"start": ("programs",), "standing_text": ("standing",)},
    "moving": {
        "moves": ("book", "standing"),
        "move_error": ("book", "standing", "value"),
        "moved": ("book", "standing", "value"),
    },
    "runs": {
        "run_error": ("book", "programs", "value"),
        "led": ("book", "programs", "run"),
        "rests": ("standing",),
        "sleepers": ("standing",),
        "harm": ("standing",),
        "whole_run": ("book", "programs"),
    },
    "runtexts": {"run_text": ("run",), "read_run": ("value",)},
    "good": {
        "lacks": ("book", "sort"),
        "is_good": ("book", "sort"),
        "many_good": ("sort",),
        "idle": ("book", "sort"),
        "mended": ("book", "sort"),
    },
    "losing": {"losing": ("book", "sort")},
    "losejudge": {"losing_error": ("book", "sort", "value")},
    "weaving": {
        "many_come": ("book", "programs"),
        "harms": ("book", "programs"),
        "ends": ("book", "programs"),
        "shortest_loss": ("book", "programs"),
        "some_round": ("book", "programs"),
    },
    "ways": {
        "uncalled": ("standing",),
        "fed": ("standing",),
        "on_way": ("standing",),
        "owed": ("standing",),
        "least_want": ("standing",),
    },
    "counting": {
        "tally": ("book", "programs", "run"),
        "served": ("book", "programs", "run"),
        "can_fail": ("book",),
        "can_pass_over": ("book",),
    },
    "halllogs": {"log_text": ("log",), "read_log": ("value",), "hall_behind": ("book", "value")},
}
CLASSES = {
    "errors": ("SleepError", "Unfit", "BadBook", "BadPrograms", "BadMove", "BadRun", "BadText", "BadLog", "Refused",
               "TooMany", "TooManyEdits", "NothingToUndo"),
    "halls": ("Hall",),
    "shells": ("Shell",),
}
# The methods that it lists for classes, each to be defined in the class itself, with the names of their arguments.
METHODS = {
    ("halls", "Hall"): {
        "__init__": ("book",),
        "book": (),
        "standing": (),
        "log": (),
        "names": (),
        "can": (),
        "trouble": (),
        "come": ("name",),
        "ask": ("name", "deed"),
        "go": ("move",),
        "rest": (),
        "turn": ("entry", "word"),
        "undo": (),
        "twin": (),
        "__eq__": ("other",),
    },
    ("shells", "Shell"): {"say": ("line",)},
}


def defined(name, kind):
    """The names that the file of this module defines itself."""
    tree = ast.parse((PACKAGE / (name + ".py")).read_text())
    return {node.name for node in tree.body if isinstance(node, kind)}


class InterfaceTest(unittest.TestCase):
    """The interface: which name stands in which file."""

    def test_functions_stand_in_their_files(self):
        for module, listed in FUNCTIONS.items():
            self.assertLessEqual(set(listed), defined(module, ast.FunctionDef), module)

    def test_classes_stand_in_their_files(self):
        for module, listed in CLASSES.items():
            self.assertLessEqual(set(listed), defined(module, ast.ClassDef), module)

    def assert_arguments(self, made, arguments):
        parameters = inspect.signature(made).parameters
        self.assertEqual(tuple(parameters), arguments)
        for parameter in parameters.values():
            self.assertIs(parameter.kind, inspect.Parameter.POSITIONAL_OR_KEYWORD)
            self.assertIs(parameter.default, inspect.Parameter.empty)

    def test_arguments_have_the_names_that_are_told(self):
        for module, listed in FUNCTIONS.items():
            for name, arguments in listed.items():
                self.assert_arguments(getattr(importlib.import_module("leftasleep." + module), name), arguments)

    def test_methods_stand_in_their_classes(self):
        for (module, name), listed in METHODS.items():
            made = getattr(importlib.import_module("leftasleep." + module), name)
            self.assertLessEqual(set(listed), set(vars(made)))
            for method, arguments in listed.items():
                self.assert_arguments(vars(made)[method], ("self",) + arguments)

    def test_there_are_no_other_modules_than_those_and_a_few_for_them(self):
        found = {path.stem for path in PACKAGE.glob("*.py")}
        self.assertEqual(found - set(FUNCTIONS) - set(CLASSES), {"__init__", "bounds", "integers", "names"})


if __name__ == "__main__":
    unittest.main()
