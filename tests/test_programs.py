"""Point [7]: what programs tell of themselves, and `turned`."""

import unittest

from helper import raised, read, text_of
from lateyields.errors import BadRow
from lateyields.programs import Program

TEXT = ("walk w; give; end; walk v; each w closed; give; end; end; "
        "job main; each w dropped; each v kept 2; each w closed 1; end; end; end; "
        "wait z; open b; wait m; open z; end; job b; end; job a; end")

EACH_ROWS = {4: "closed", 9: "dropped", 10: "kept", 11: "closed"}


class Tells(unittest.TestCase):
    def test_names(self):
        program = read(TEXT)
        self.assertEqual(program.jobs, ("a", "b", "main"))
        self.assertEqual(program.walks, ("v", "w"))
        self.assertEqual(program.gates, ("b", "m", "z"))

    def test_no_walks_and_no_gates(self):
        program = read("job main; begin main; say a; fail b; end")
        self.assertEqual((program.jobs, program.walks, program.gates), (("main",), (), ()))

    def test_gates_in_blocks_of_walks(self):
        program = read("walk w; guard; wait c; late; open b; end; end; job main; repeat 2; wait a; end; end")
        self.assertEqual(program.gates, ("a", "b", "c"))

    def test_text(self):
        self.assertEqual(str(read(TEXT)), text_of(TEXT))

    def test_length(self):
        self.assertEqual(len(read(TEXT)), 24)
        self.assertEqual(len(read("job main; end")), 2)

    def test_equal(self):
        self.assertTrue(read(TEXT) == read(TEXT))
        self.assertFalse(read(TEXT) != read(TEXT))
        self.assertFalse(read("job main; say a; end") == read("job main; say b; end"))
        self.assertTrue(read("job main; say a; end") != read("job main; say b; end"))

    def test_equal_to_nothing_else(self):
        for other in (text_of("job main; end"), None, 2, [], object(), True, ("job main", "end")):
            self.assertFalse(read("job main; end") == other)
            self.assertTrue(read("job main; end") != other)


class Turned(unittest.TestCase):
    def test_each_way(self):
        for at in (4, 9, 11):
            for how in ("closed", "dropped"):
                program = read(TEXT)
                rows = str(program).split("\n")
                rows[at] = rows[at].replace(EACH_ROWS[at], how)
                turned = program.turned(at, how)
                self.assertEqual(str(turned), "\n".join(rows))
                self.assertTrue(turned == Program.read("\n".join(rows)))
                self.assertEqual(str(program), text_of(TEXT))

    def test_by_name(self):
        turned = read("walk w; give; end; job main; each w closed 7; end; end").turned(at=4, how="kept")
        self.assertEqual(str(turned), text_of("walk w; give; end; job main; each w kept 7; end; end"))
        self.assertEqual(turned.jobs, ("main",))

    def test_names_that_are_parts_of_others(self):
        turned = read("walk closedd; end; job main; each closedd closed; end; end").turned(3, "dropped")
        self.assertEqual(str(turned).split("\n")[3], "each closedd dropped")

    def test_the_same_way(self):
        self.assertTrue(read(TEXT).turned(10, "kept") == read(TEXT))

    def test_rows_that_are_no_each(self):
        program = read(TEXT)
        for at in range(len(program)):
            if at not in EACH_ROWS:
                self.assertEqual(raised(BadRow, program.turned, at, "closed").at, at)

    def test_what_is_no_index(self):
        program = read("walk w; end; job main; each w closed; end; end")
        for at in (-1, -3, 6, 7, 10 ** 5000, True, False, None, "3", "", 3.0, [3], {"a": 3}, (3,), b"3", object()):
            error = raised(BadRow, program.turned, at, "dropped")
            self.assertTrue(error.at == at and error.at.__class__ is at.__class__)

    def test_true_is_no_index(self):
        program = read("walk w; end; job main; repeat 2; each w closed; end; end; end")
        self.assertIs(raised(BadRow, program.turned, True, "dropped").at, True)

    def test_what_is_no_way(self):
        program = read(TEXT)
        for how in ("", "close", "Closed", "closed ", "closed 1", "kept\n", "open", "w", None, 1, ["closed"],
                    ("kept",), b"closed"):
            for at in (4, 9):
                self.assertEqual(raised(BadRow, program.turned, at, how).at, at)

    def test_rows_that_would_be_no_program(self):
        program = read(TEXT)
        self.assertEqual(raised(BadRow, program.turned, 4, "kept").at, 4)
        inner = read("walk w; end; job main; each w kept; each w closed; end; end; end")
        self.assertEqual(raised(BadRow, inner.turned, 4, "kept").at, 4)
        self.assertEqual(str(inner.turned(4, "dropped")).split("\n")[4], "each w dropped")

    def test_an_inner_row_would_be_refused(self):
        outer = read("walk w; end; job main; each w closed; each w kept; end; end; end")
        self.assertEqual(raised(BadRow, outer.turned, 3, "kept").at, 3)

    def test_a_list_is_copied(self):
        at = [4]
        error = raised(BadRow, read(TEXT).turned, at, "kept")
        at.append(1)
        self.assertEqual(error.at, [4])
