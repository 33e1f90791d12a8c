"""Points [2] and [43]: the names in their modules; and the form of the package's files."""

import ast
import inspect
import pathlib
import unittest

import lateyields
from helper import read
from lateyields import (counts, cuts, errors, joins, logs, loops, nets, orders, programs, shelf, swaps, tales,
                        ways)

FOLDER = pathlib.Path(lateyields.__file__).parent
FILES = sorted(FOLDER.glob("*.py"))

ERRORS = ("LateError BadRow TooMany TooLong TooWide NotReady NoSchedule Never NoCut OtherNet Taken NoCommand "
          "Unknown").split()

# The functions of each module, with their arguments; those behind a `*` are passed by name only.
FUNCTIONS = {
    orders: {"order_of": "net one other", "paper_of": "net one other", "latest": "net event", "round_of": "net event"},
    swaps: {"swaps": "net one other", "distance": "net one other"},
    ways: {"ways": "net event * most=4000", "blockers": "net event * most=4000", "earliest": "net event * most=4000",
           "unlike_ways": "net * most=4000"},
    counts: {"cuts_of": "net * most=4000", "schedules_of": "net * most=4000", "schedule_at": "net number * most=4000",
             "index_of": "net schedule * most=4000", "ahead_of": "net one other * most=4000",
             "places_of": "net event * most=4000", "greatest": "net weights * most=4000"},
    logs: {"is_log": "net log * most=400", "logs_of": "net * most=400", "least_log": "net * most=400",
           "parted": "one other * most=400"},
    joins: {"beside": "one other", "behind": "one other", "renamed": "net sign", "loosened": "net event at"},
}

METHODS = {
    programs.Program: "__str__ __eq__ __len__ turned",
    tales.Tale: "notes opens begins drops outcomes stuck cleanups",
    loops.Loop: "__call__ __iadd__ run finish cut places outcomes copied tried",
    nets.Net: "needs notes __str__ __eq__ __len__ __contains__",
    cuts.Cut: "__len__ __contains__ __add__ __or__ __and__ within __eq__ __lt__ __le__ __gt__ __ge__ packed",
    orders.Paper: "holds",
    shelf.Shelf: "__call__ __setitem__ __getitem__ __contains__ __len__",
}
STATIC = {programs.Program: "read", nets.Net: "of read", cuts.Cut: "unpacked without full"}

# Words that the language of the package (LANGUAGE.md) bars from its names.
BARRED = ("register mro elements open input law type typing enum dataclass eval exec exit compile dir vars "
          "globals locals id help quit delattr breakpoint").split()


def arguments_of(function):
    """The arguments of a function, as one string."""
    words = []
    for one in inspect.signature(function).parameters.values():
        if one.kind is one.KEYWORD_ONLY and "*" not in words:
            words.append("*")
        words.append(one.name if one.default is one.empty else one.name + "=" + repr(one.default))
    return " ".join(words)


class Interface(unittest.TestCase):
    def test_names_are_defined_in_their_modules(self):
        for module, names in ((errors, ERRORS), (programs, ["Program"]), (tales, ["Tale"]), (loops, ["Loop"]),
                              (nets, ["Net"]), (cuts, ["Cut"]), (orders, ["Paper"]), (shelf, ["Shelf"])):
            for name in names:
                found = getattr(module, name)
                self.assertTrue(inspect.isclass(found))
                self.assertEqual(found.__module__, module.__name__)

    def test_functions_are_defined_in_their_modules(self):
        for module, functions in FUNCTIONS.items():
            for name, arguments in functions.items():
                found = getattr(module, name)
                self.assertTrue(inspect.isfunction(found))
                self.assertEqual(found.__module__, module.__name__)
                self.assertEqual(arguments_of(found), arguments)

    def test_methods_stand_in_the_classes_themselves(self):
        for kind, names in METHODS.items():
            for name in names.split():
                self.assertTrue(inspect.isfunction(vars(kind)[name]), name)
        for kind, names in STATIC.items():
            for name in names.split():
                self.assertIsInstance(vars(kind)[name], staticmethod)
        for name in ("ready", "past", "is_over"):
            self.assertIsInstance(vars(loops.Loop)[name], property)

    def test_arguments(self):
        for call, names in ((programs.Program.read, "text"), (programs.Program.turned, "self at how"),
                            (tales.Tale, "program"), (tales.Tale.notes, "self event"), (tales.Tale.opens, "self event"),
                            (tales.Tale.begins, "self event"), (tales.Tale.drops, "self event"),
                            (loops.Loop, "program"), (loops.Loop.__call__, "self job"), (loops.Loop.run, "self jobs"),
                            (loops.Loop.finish, "self"), (loops.Loop.cut, "self"), (loops.Loop.places, "self"),
                            (loops.Loop.outcomes, "self"), (loops.Loop.copied, "self"),
                            (loops.Loop.tried, "self work"), (nets.Net, "needs notes"), (nets.Net.of, "program"),
                            (nets.Net.read, "text"), (nets.Net.needs, "self event"), (nets.Net.notes, "self event"),
                            (cuts.Cut, "net events"), (cuts.Cut.within, "self other"), (cuts.Cut.packed, "self"),
                            (cuts.Cut.unpacked, "net data"), (cuts.Cut.without, "net events"), (cuts.Cut.full, "net"),
                            (orders.Paper, "word one other events"), (orders.Paper.holds, "self net"),
                            (shelf.Shelf, ""), (shelf.Shelf.__call__, "self row")):
            self.assertEqual(list(inspect.signature(call).parameters), names.split())

    def test_default_values(self):
        self.assertIsNone(inspect.signature(nets.Net).parameters["notes"].default)
        self.assertEqual(inspect.signature(cuts.Cut).parameters["events"].default, ())

    def test_attributes_are_set_when_the_object_is_made(self):
        program = read("job main; end")
        net = nets.Net.of(program)
        self.assertLessEqual({"jobs", "walks", "gates"}, set(vars(program)))
        self.assertLessEqual({"program", "events"}, set(vars(tales.Tale(program))))
        self.assertLessEqual({"events", "never"}, set(vars(net)))
        cut = cuts.Cut(net)
        self.assertLessEqual({"net", "events", "is_full"}, set(vars(cut)))
        self.assertEqual(cut.ready, ("main.0",))
        self.assertLessEqual({"word", "one", "other", "events"}, set(vars(orders.Paper("", "", "", ""))))
        self.assertEqual(vars(shelf.Shelf())["names"], ())


class Files(unittest.TestCase):
    def test_the_folder_holds_nothing_else(self):
        others = [path.name for path in FOLDER.iterdir() if path not in FILES and path.name != "__pycache__"]
        self.assertEqual(others, [])

    def test_sizes_and_characters(self):
        for path in FILES:
            lines = path.read_text("ascii").split("\n")
            self.assertLess(len(lines), 400, path.name)
            for line in lines:
                self.assertLessEqual(len(line), 120, path.name)
                self.assertTrue(all(" " <= sign <= "~" for sign in line), path.name)

    def test_sizes_of_functions(self):
        for path in FILES:
            for node in ast.walk(ast.parse(path.read_text())):
                if isinstance(node, ast.FunctionDef):
                    self.assertLessEqual(node.end_lineno - node.lineno, 39, node.name)

    def test_imports_are_of_the_package(self):
        for path in FILES:
            for node in ast.walk(ast.parse(path.read_text())):
                self.assertNotIsInstance(node, ast.Import)
                if isinstance(node, ast.ImportFrom):
                    self.assertTrue(node.module.startswith("lateyields."), path.name)

    def test_barred_words(self):
        for path in FILES:
            for node in ast.walk(ast.parse(path.read_text())):
                for name in (getattr(node, "id", None), getattr(node, "attr", None), getattr(node, "arg", None),
                             getattr(node, "name", None)):
                    self.assertNotIn(name, BARRED, path.name)

    def test_what_is_sorted(self):
        # Cuts have an order of their own, so what is sorted must plainly be no cuts: sets hold only plain values.
        for path in FILES:
            for node in ast.walk(ast.parse(path.read_text())):
                if isinstance(node, ast.Call) and getattr(node.func, "id", None) == "sorted":
                    self.assertEqual(node.args[0].func.id, "set", path.name)
                self.assertNotEqual(getattr(node, "attr", None), "sort", path.name)

    def test_properties_are_assigned_nowhere(self):
        trees = [ast.parse(path.read_text()) for path in FILES]
        nodes = [node for tree in trees for node in ast.walk(tree)]
        marks = [mark for node in nodes for mark in getattr(node, "decorator_list", ())]
        self.assertLessEqual({getattr(mark, "id", None) for mark in marks}, {"property", "staticmethod"})
        properties = {node.name for node in nodes for mark in getattr(node, "decorator_list", ())
                      if mark.id == "property"}
        stored = {node.attr for node in nodes if isinstance(node, ast.Attribute) and isinstance(node.ctx, ast.Store)}
        methods = {node.name for node in nodes if isinstance(node, ast.FunctionDef)
                   and "property" not in [mark.id for mark in node.decorator_list]}
        self.assertEqual(properties, {"ready", "past", "is_over"})
        self.assertEqual(properties & (stored | methods), set())

    def test_no_name_is_a_method_and_an_attribute(self):
        nodes = [node for path in FILES for node in ast.walk(ast.parse(path.read_text()))]
        methods = {node.name for kind in nodes if isinstance(kind, ast.ClassDef)
                   for node in kind.body if isinstance(node, ast.FunctionDef)}
        stored = {node.attr for node in nodes if isinstance(node, ast.Attribute) and isinstance(node.ctx, ast.Store)}
        self.assertEqual(methods & stored, set())
