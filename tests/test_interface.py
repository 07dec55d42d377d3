"""What the interface lists is there: defined in its file, with the arguments told."""

import ast
import importlib
import inspect
import pathlib
import unittest

PACKAGE = pathlib.Path(__file__).resolve().parent.parent / "waitedmeets"

FUNCTIONS = {
    "worths": {"is_word": "(thing)", "is_worth": "(thing)", "alike": "(one, other)", "done": "(word, one, other)"},
    "programs": {"look_at_program": "(thing)", "kind_of": "(program, name)", "main_of": "(program)"},
    "runs": {"first_wrong": "(program, run)", "stand_behind": "(program, run)", "chooses": "(program, run)"},
    "parting": {
        "spots_of": "(program, name)", "spot_of": "(program, name, place, given)", "parted_rules": "(program, name)",
    },
    "lotmachines": {
        "rule_of": "(program, name, spots)", "is_still": "(program, name, spots)", "still_sets": "(program, name)",
        "machine_of": "(program, name)", "state_of": "(program, name, spots)",
        "row_parting": "(program, name, one, other)", "paper_of": "(program, name)",
        "lets_machine": "(program, name, machine, paper)",
    },
    "runner": {"weaving_of": "(program, run)"},
    "nets": {"is_net": "(thing)", "can": "(net, marking)", "behind": "(net, marking, rule)"},
    "growing": {"holds": "(net, marking, *, most=500)", "lets_holds": "(net, marking, thing)"},
    "tellers": {"is_teller": "(thing)", "told_by": "(teller, row)"},
    "likeness": {
        "likeness": "(one, other, *, within=1)", "lets_likeness": "(one, other, thing, *, within=1)",
    },
    "made": {
        "locked": "(many)", "shelved": "(numbers)", "met": "(many)", "reading": "(many)", "keeps": "(word, of, notes)",
    },
    "weavings": {"ends": "(program, *, most=4000, compiled=False)"},
    "otherwise": {"called": "(program, *, kinds=None, words=None)", "worth_called": "(worth, words)"},
    "texts": {
        "show_program": "(program)", "show_run": "(run)", "read_program": "(text)", "read_run": "(text)",
    },
}
CLASSES = {
    "errors": (
        "MeetError", "NoProgram", "NoSet", "NoNames", "NoText", "NoRun", "NoStep", "NoNumber", "NoLine", "NoNet",
        "NoMarking", "NoTeller", "NoRow", "Unlike", "NoKind", "NoBody", "NoHouse", "NoLot", "NoState", "NoRule",
        "NoDesk", "TooMany",
    ),
}
METHODS = {
    ("stands", "Stand"): {
        "__init__": "(self, program)", "steps": "(self)", "lots": "(self)", "heap": "(self, lot)", "bodies": "(self)",
        "notes": "(self)", "faults": "(self)", "done": "(self)", "do": "(self, step)", "names": "(self, body)",
        "twin": "(self)", "seen": "(self)", "__len__": "(self)", "__eq__": "(self, other)",
    },
    ("runner", "Runner"): {
        "__init__": "(self, program)", "go": "(self, body)", "weave": "(self, bodies)", "ready": "(self)",
        "weaving": "(self)", "run": "(self)", "lots": "(self)", "heap": "(self, lot)", "bodies": "(self)",
        "notes": "(self)", "faults": "(self)", "names": "(self, body)", "state": "(self, lot)", "is_over": "(self)",
        "left": "(self)", "stand": "(self)", "twin": "(self)", "seen": "(self)", "__len__": "(self)",
    },
    ("world", "World"): {
        "__init__": "(self, program, *, houses=2)", "do": "(self, step)", "steps": "(self)", "run": "(self)",
        "waiting": "(self, house)", "heap": "(self, lot)", "lots": "(self)", "bodies": "(self)", "notes": "(self)",
        "faults": "(self)", "where": "(self, lot)", "knows": "(self, house, lot)", "post": "(self)",
        "house_of": "(self, body)", "home": "(self)", "twin": "(self)", "__len__": "(self)", "__eq__": "(self, other)",
    },
    ("desk", "Desk"): {"__init__": "(self)", "say": "(self, row)"},
}


def defined(module, sort):
    """The names that stand as definitions of this sort at the top of a file."""
    tree = ast.parse((PACKAGE / f"{module}.py").read_text())
    return {node.name for node in tree.body if isinstance(node, sort)}


class Interface(unittest.TestCase):
    def test_functions(self):
        for module, functions in FUNCTIONS.items():
            self.assertLessEqual(set(functions), defined(module, ast.FunctionDef))
            for name, arguments in functions.items():
                function = getattr(importlib.import_module(f"waitedmeets.{module}"), name)
                self.assertEqual(str(inspect.signature(function)), arguments, name)

    def test_classes(self):
        for module, names in CLASSES.items():
            self.assertLessEqual(set(names), defined(module, ast.ClassDef))

    def test_methods_stand_in_the_class_itself(self):
        for (module, name), methods in METHODS.items():
            self.assertIn(name, defined(module, ast.ClassDef))
            one = getattr(importlib.import_module(f"waitedmeets.{module}"), name)
            for method, arguments in methods.items():
                self.assertEqual(str(inspect.signature(vars(one)[method])), arguments, (name, method))


if __name__ == "__main__":
    unittest.main()
