"""Points [2] and [43]: the names in their modules; and the form of the package's files."""

import ast
import inspect
import pathlib
import unittest

import lateyields
from helper import read
from lateyields import errors, programs, tales

FOLDER = pathlib.Path(lateyields.__file__).parent
FILES = sorted(FOLDER.glob("*.py"))

ERRORS = ("LateError BadRow TooMany TooLong TooWide NotReady NoSchedule Never NoCut OtherNet Taken NoCommand "
          "Unknown").split()

# Words that the language of the package (LANGUAGE.md) bars from its names.
BARRED = ("register mro elements open input law type typing enum dataclass eval exec exit compile dir vars "
          "globals locals id help quit delattr breakpoint").split()


class Interface(unittest.TestCase):
    def test_names_are_defined_in_their_modules(self):
        for module, names in ((errors, ERRORS), (programs, ["Program"]), (tales, ["Tale"])):
            for name in names:
                found = getattr(module, name)
                self.assertTrue(inspect.isclass(found))
                self.assertEqual(found.__module__, module.__name__)

    def test_methods_stand_in_the_classes_themselves(self):
        for name in ("__str__", "__eq__", "__len__", "read", "turned"):
            self.assertIn(name, vars(programs.Program))
        for name in ("notes", "opens", "begins", "drops", "outcomes", "stuck", "cleanups"):
            self.assertIn(name, vars(tales.Tale))
        self.assertIsInstance(vars(programs.Program)["read"], staticmethod)

    def test_arguments(self):
        self.assertEqual(list(inspect.signature(programs.Program.read).parameters), ["text"])
        self.assertEqual(list(inspect.signature(programs.Program.turned).parameters), ["self", "at", "how"])
        self.assertEqual(list(inspect.signature(tales.Tale).parameters), ["program"])
        for name in ("notes", "opens", "begins", "drops"):
            self.assertEqual(list(inspect.signature(getattr(tales.Tale, name)).parameters), ["self", "event"])

    def test_attributes_are_set_when_the_object_is_made(self):
        program = read("job main; end")
        self.assertLessEqual({"jobs", "walks", "gates"}, set(vars(program)))
        self.assertLessEqual({"program", "events"}, set(vars(tales.Tale(program))))


class Files(unittest.TestCase):
    def test_the_folder_holds_nothing_else(self):
        others = [path.name for path in FOLDER.iterdir() if path not in FILES and path.name != "__pycache__"]
        self.assertEqual(others, [])

    def test_sizes_and_characters(self):
        for path in FILES:
            lines = path.read_text("ascii").split("\n")
            self.assertLess(len(lines), 400, path.name)
            for line in lines:
                self.assertLessEqual(len(line), 120, path.name)
                self.assertTrue(all(" " <= sign <= "~" for sign in line), path.name)

    def test_sizes_of_functions(self):
        for path in FILES:
            for node in ast.walk(ast.parse(path.read_text())):
                if isinstance(node, ast.FunctionDef):
                    self.assertLessEqual(node.end_lineno - node.lineno, 39, node.name)

    def test_imports_are_of_the_package(self):
        for path in FILES:
            for node in ast.walk(ast.parse(path.read_text())):
                self.assertNotIsInstance(node, ast.Import)
                if isinstance(node, ast.ImportFrom):
                    self.assertTrue(node.module.startswith("lateyields."), path.name)

    def test_barred_words(self):
        for path in FILES:
            for node in ast.walk(ast.parse(path.read_text())):
                for name in (getattr(node, "id", None), getattr(node, "attr", None), getattr(node, "arg", None),
                             getattr(node, "name", None)):
                    self.assertNotIn(name, BARRED, path.name)
