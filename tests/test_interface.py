"""What the interface lists is there: defined in its file, with the arguments told."""

import ast
import importlib
import inspect
import pathlib
import unittest

PACKAGE = pathlib.Path(__file__).resolve().parent.parent / "waitedmeets"

FUNCTIONS = {
    "worths": {"is_word": "(thing)", "is_worth": "(thing)", "alike": "(one, other)", "done": "(word, one, other)"},
    "programs": {"look_at_program": "(thing)", "kind_of": "(program, name)", "main_of": "(program)"},
}
CLASSES = {
    "errors": (
        "MeetError", "NoProgram", "NoSet", "NoNames", "NoText", "NoRun", "NoStep", "NoNumber", "NoLine", "NoNet",
        "NoMarking", "NoTeller", "NoRow", "Unlike", "NoKind", "NoBody", "NoHouse", "NoLot", "NoState", "NoRule",
        "NoDesk", "TooMany",
    ),
}


def defined(module, sort):
    """The names that stand as definitions of this sort at the top of a file."""
    tree = ast.parse((PACKAGE / f"{module}.py").read_text())
    return {node.name for node in tree.body if isinstance(node, sort)}


class Interface(unittest.TestCase):
    def test_functions(self):
        for module, functions in FUNCTIONS.items():
            self.assertLessEqual(set(functions), defined(module, ast.FunctionDef))
            for name, arguments in functions.items():
                function = getattr(importlib.import_module(f"waitedmeets.{module}"), name)
                self.assertEqual(str(inspect.signature(function)), arguments, name)

    def test_classes(self):
        for module, names in CLASSES.items():
            self.assertLessEqual(set(names), defined(module, ast.ClassDef))


if __name__ == "__main__":
    unittest.main()
