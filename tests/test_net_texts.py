"""Point [25]: nets as texts."""

import random
import unittest

from any_net import net_parts
from any_program import program_text
from helper import raised, read
from lateyields.errors import BadRow, LateError, Unknown
from lateyields.nets import Net
from lateyields.programs import Program

LONG = "a/1." + "0" * 56
SIGNS = "abcdefghijklmnopqrstuvwxyz0123456789./"


class Written(unittest.TestCase):
    def test_the_example(self):
        net = Net.read("a x\nb\nc y < a|b\nd < a c")
        self.assertEqual(str(net), "a x\nb\nc y < a|b\nd < a c")

    def test_rows_ascend(self):
        net = Net({"b": [], "a.10": [], "a.9": [], "a/1.0": [], "a": []})
        self.assertEqual(str(net), "a\na.10\na.9\na/1.0\nb")

    def test_notes_stay_in_their_order(self):
        self.assertEqual(str(Net({"a": []}, {"a": ["y", "x", "y"]})), "a y x y")

    def test_needs(self):
        net = Net({"a": [["c", "b"], ["b"], [], ["b", "b"]], "b": [["b"]], "c": []}, {"a": ["x"]})
        self.assertEqual(str(net), "a x < - b b|c\nb < b\nc")

    def test_needs_ascend_as_tuples(self):
        net = Net({"a": [], "a.0": [], "b": [["a.0"], ["a", "b"], ["a"]]})
        self.assertEqual(str(net), "a\na.0\nb < a a|b a.0")

    def test_no_events(self):
        self.assertEqual(str(Net({})), "")
        self.assertTrue(Net.read("") == Net({}))

    def test_of_a_program(self):
        self.assertEqual(str(Net.of(read("job main; say b; say a; pause; end"))),
                         "end < main.0 main.1\nmain.0 b a\nmain.1 < main.0")


class Read(unittest.TestCase):
    def check(self, text, needs, notes=None):
        net = Net.read(text)
        self.assertTrue(net == Net(needs, notes), str(net))
        self.assertTrue(Net.read(str(net)) == net)

    def test_by_name(self):
        self.assertEqual(Net.read(text="a").events, ("a",))

    def test_rows(self):
        self.check("a", {"a": []})
        self.check("a < a", {"a": [["a"]]})
        self.check("a < -", {"a": [[]]})
        self.check("a x y < a - a|a", {"a": [["a"], []]}, {"a": ["x", "y"]})

    def test_other_orders_and_repetitions(self):
        self.check("c < b|a|b b a|b b\nb x x\na < - b -", {"a": [["b"], []], "b": [], "c": [["b"], ["a", "b"]]},
                   {"b": ["x", "x"]})

    def test_any_event(self):
        for event in ("0", ".", "/", "..", "a.b/c", "end", "job", "walk", "say", "z9", LONG, SIGNS):
            self.check(event + " x < " + event, {event: [[event]]}, {event: ["x"]})

    def test_notes_of_eight_signs(self):
        self.check("a abcdefgh", {"a": []}, {"a": ["abcdefgh"]})

    def test_sixty_signs(self):
        self.assertEqual(len(LONG), 60)
        self.check("b < " + LONG + "|b\n" + LONG, {"b": [[LONG, "b"]], LONG: []})

    def test_needs_of_events_below(self):
        self.check("a < b\nb < c\nc", {"a": [["b"]], "b": [["c"]], "c": []})

    def test_by_chance(self):
        for seed in range(300):
            net = Net(*net_parts(seed))
            rows = str(net).split("\n")
            random.Random(seed).shuffle(rows)
            self.assertTrue(Net.read(str(net)) == net)
            self.assertTrue(Net.read("\n".join(rows)) == net)

    def test_of_programs(self):
        for seed in range(150):
            try:
                net = Net.of(Program.read(program_text(seed)))
            except LateError:
                continue
            self.assertTrue(Net.read(str(net)) == net)

    def test_of_great_programs(self):
        net = Net.of(read("job main; " + "repeat 9; repeat 9; pause; end; end; " * 3 + "end"))
        self.assertEqual(len(net), 245)
        self.assertTrue(Net.read(str(net)) == net)


BAD_ROWS = ("", " ", "a ", " a", "a  x", "a x ", "A", "a_b", "a|b", "-", "<", "a-", "a\t", "a\tx", "\u00e4", "a,b",
            LONG + "0",
            # notes
            "a X", "a x1", "a say", "a end", "a walk", "a kept", "a abcdefghi", "a x.y", "a -", "a x|y", "a \u00e4",
            "a 1", "a |",
            # needs
            "a <", "a < ", "a x <", "a x < ", "a <  b", "a < b ", "a  < b", "< b", " < b", "a <b", "a< b", "a < < b",
            "a < b < c", "a < b <", "a < b|", "a < |b", "a < b||c", "a < |", "a < b|-", "a < -|b", "a < -|-", "a < --",
            "a < B", "a < b,c", "a < b_c", "a < b\t", "a < \u00e4", "a < " + LONG + "0", "a < b|" + LONG + "0", "a > b",
            "a x<b", "a < x <", "a <<", "a << b")


class Refused(unittest.TestCase):
    def test_each_form(self):
        for row in BAD_ROWS:
            if row:
                self.assertEqual(raised(BadRow, Net.read, row).at, 0, row)
            self.assertEqual(raised(BadRow, Net.read, "b\nc\n" + row).at, 2, row)
            self.assertEqual(raised(BadRow, Net.read, "b\n" + row + "\nc").at, 1, row)

    def test_empty_rows(self):
        for text, at in (("\n", 0), ("a\n", 1), ("\na", 0), ("a\n\nb", 1), ("a\n\n", 1)):
            self.assertEqual(raised(BadRow, Net.read, text).at, at)

    def test_the_first_of_several(self):
        self.assertEqual(raised(BadRow, Net.read, "a\nb <\na\nB").at, 1)
        self.assertEqual(raised(BadRow, Net.read, "a\na\nb <").at, 1)

    def test_an_earlier_row(self):
        self.assertEqual(raised(BadRow, Net.read, "a\nb\na").at, 2)
        self.assertEqual(raised(BadRow, Net.read, "a x < b\nb\nc\na x < b").at, 3)
        self.assertEqual(raised(BadRow, Net.read, "a\na\na").at, 1)

    def test_unknown_events(self):
        self.assertEqual(raised(Unknown, Net.read, "a < b").name, "b")
        self.assertEqual(raised(Unknown, Net.read, "a < z y|a\nb < x|zz").name, "x")
        self.assertEqual(raised(Unknown, Net.read, "a < a.9 a.10").name, "a.10")
        self.assertEqual(raised(Unknown, Net.read, text="b x < x").name, "x")

    def test_bad_rows_come_first(self):
        self.assertEqual(raised(BadRow, Net.read, "a < b\nc <").at, 1)
        self.assertEqual(raised(BadRow, Net.read, "a < b\na").at, 1)

    def test_carriage_returns_are_no_rows(self):
        self.assertEqual(raised(BadRow, Net.read, "a\r\nb").at, 0)
        self.assertEqual(raised(BadRow, Net.read, "a\x0bb").at, 0)


class NoRowIsRefusedWithoutCause(unittest.TestCase):
    def test_signs(self):
        """Of all short rows just those are read that are made by the rules of the point."""
        signs = "aA1.<-| "
        rows = [""]
        for _ in range(5):
            rows = [row + sign for row in rows for sign in signs]
            for row in rows:
                self.assertEqual(self.is_read(row), self.fits(row), repr(row))

    def is_read(self, row):
        try:
            Net.read(row + "\nb")
        except BadRow:
            return False
        except Unknown:
            pass
        return True

    def fits(self, row):
        parts = row.split(" ")
        notes = parts[1:]
        if "<" in parts:
            mark = parts.index("<")
            notes, needs = parts[1:mark], parts[mark + 1:]
            if mark == 0 or not needs:
                return False
            if not all(need == "-" or all(self.is_event(one) for one in need.split("|")) for need in needs):
                return False
        return self.is_event(parts[0]) and all(note and set(note) <= {"a"} for note in notes)

    def is_event(self, part):
        return part != "" and set(part) <= set("a1.")
