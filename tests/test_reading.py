"""Points [1], [5], [6] and [7]: which texts are programs."""

import unittest

from helper import raised, read, text_of
from lateyields.errors import BadRow, TooMany, Unknown
from lateyields.programs import Program

WORDS = ("say pause wait open begin fail give repeat guard late mend end each job walk "
         "closed dropped kept").split()

WALK = "walk w; give; end; "


def bad(short):
    """The index that `BadRow` tells."""
    return raised(BadRow, read, short).at


class Rows(unittest.TestCase):
    def test_all_rows(self):
        read("walk w; give; say a; pause; wait g; open g; begin main; fail e; repeat 2; give; end; guard; give; "
             "late; say b; end; guard; mend; end; end; walk v; each w closed; give; end; each w dropped 3; end; end; "
             "job main; say a; pause; wait g; open g; begin main; fail e; repeat 9; end; guard; late; end; "
             "guard; mend; end; each w closed; end; each v dropped; end; each v kept; end; each w closed 1; end; "
             "each w dropped 5; end; each w kept 9; end; end")

    def test_any_rows_between_may_be_missing(self):
        self.assertEqual(len(read("job main; end")), 2)
        read("walk w; end; job main; repeat 1; end; guard; late; end; guard; mend; end; each w kept; end; end")

    def test_same_names_of_unlike_sorts(self):
        program = read("walk main; say main; give; end; job main; wait main; open main; say main; fail main; "
                       "begin main; each main closed; end; end")
        self.assertEqual((program.jobs, program.walks, program.gates), (("main",), ("main",), ("main",)))

    def test_rows_that_are_none(self):
        for row in ("", " ", "say", "say ", " say a", "say a ", "say  a", "say a b", "Say a", "sing a", "pause a",
                    "pause ", "wait", "wait a b", "open", "open a b", "begin", "begin main main", "fail",
                    "fail a b", "repeat", "repeat a", "repeat 2 2", "guard a", "late a", "mend a", "end a",
                    "each", "each w", "each w closed 1 1", "each w 1", "each w open", "each closed w", "closed",
                    "kept w", "each w closed 0", "each w closed 10", "each w closed a", "each w closed ",
                    "job", "job a b", "walk", "walk a b", "say\ta", "say a\r", "# say a", "say:a", "end "):
            self.assertEqual(bad(WALK + "job main; " + row + "; end"), 4, row)
            self.assertEqual(bad(WALK + row + "; job main; end"), 3, row)

    def test_names(self):
        for name in ("a", "z", "abcdefgh", "zzzzzzzz", "main", "ended", "x"):
            for word in ("say", "wait", "open", "fail"):
                read("job main; " + word + " " + name + "; end")
            read("walk " + name + "; end; job main; each " + name + " closed; end; end")
            if name != "main":
                read("job " + name + "; end; job main; begin " + name + "; end")

    def test_what_is_no_name(self):
        for name in ["abcdefghi", "A", "aB", "a1", "1", "a-b", "a_b", "a.b", "", "a/b", "{", "`", "@"] + WORDS:
            for word in ("say", "wait", "open", "begin", "fail"):
                self.assertEqual(bad("job main; " + word + " " + name + "; end"), 1, name)
            self.assertEqual(bad("job main; each " + name + " closed; end; end"), 1, name)
            self.assertEqual(bad("job main; end; job " + name + "; end"), 2, name)
            self.assertEqual(bad("job main; end; walk " + name + "; end"), 2, name)

    def test_figures(self):
        for figure in "123456789":
            read(WALK + "job main; repeat " + figure + "; end; each w kept " + figure + "; end; end")
        for figure in ("0", "10", "01", "-1", "+1", "1.0", "", "a", "11", "99", " 1"):
            self.assertEqual(bad("job main; repeat " + figure + "; end; end"), 1, figure)
            self.assertEqual(bad(WALK + "job main; each w kept " + figure + "; end; end"), 4, figure)

    def test_empty_rows(self):
        self.assertEqual(raised(BadRow, Program.read, "").at, 0)
        self.assertEqual(raised(BadRow, Program.read, "\n").at, 0)
        self.assertEqual(raised(BadRow, Program.read, "job main\nend\n").at, 2)
        self.assertEqual(raised(BadRow, Program.read, "\njob main\nend").at, 0)
        self.assertEqual(raised(BadRow, Program.read, "job main\n\nend").at, 1)


class Places(unittest.TestCase):
    def test_outside_of_definitions(self):
        for row in ("say a", "pause", "wait g", "open g", "begin main", "fail e", "give", "repeat 2", "guard",
                    "late", "mend", "end", "each w closed", "each w kept 2"):
            self.assertEqual(bad(WALK + row + "; job main; end"), 3, row)

    def test_definitions_within_definitions(self):
        for row in ("job a", "walk a"):
            self.assertEqual(bad("job main; " + row + "; end; end"), 1)
            self.assertEqual(bad("walk w; " + row + "; end; end; job main; end"), 1)
            self.assertEqual(bad("job main; repeat 2; " + row + "; end; end; end"), 2)

    def test_same_name_twice(self):
        self.assertEqual(bad("job main; end; job main; end"), 2)
        self.assertEqual(bad(WALK + "walk w; end; job main; end"), 3)
        self.assertEqual(bad("job main; end; job a; end; walk a; end; job a; end"), 6)
        read("job main; end; walk main; end")

    def test_end_of_text_within_a_definition(self):
        self.assertEqual(bad("job main"), 1)
        self.assertEqual(bad("job main; say a"), 2)
        self.assertEqual(bad("job main; repeat 2; end"), 3)
        self.assertEqual(bad("job main; guard; late; end"), 4)
        self.assertEqual(bad("job main; end; walk w"), 3)

    def test_walks_must_have_ended(self):
        self.assertEqual(bad("job main; each w closed; end; end; " + WALK[:-2]), 1)
        self.assertEqual(bad("walk w; each w closed; end; end; job main; end"), 1)
        self.assertEqual(bad("walk w; give; each v dropped; end; end; walk v; end; job main; end"), 2)
        self.assertEqual(bad("job w; end; job main; each w closed; end; end"), 3)
        read(WALK + "walk v; each w closed; end; end; job main; each v closed; end; end")

    def test_give_stands_in_walks(self):
        self.assertEqual(bad("job main; give; end"), 1)
        self.assertEqual(bad(WALK + "job main; each w closed; give; end; end"), 5)
        read(WALK + "walk v; repeat 2; give; end; guard; give; mend; give; end; guard; give; late; end; "
             "each w closed; give; end; end; job main; end")

    def test_give_not_within_late_rows(self):
        self.assertEqual(bad("walk w; guard; late; give; end; end; job main; end"), 3)
        self.assertEqual(bad("walk w; guard; late; repeat 2; give; end; end; end; job main; end"), 4)
        self.assertEqual(bad("walk w; guard; late; guard; give; mend; end; end; end; job main; end"), 4)
        self.assertEqual(bad("walk w; guard; late; guard; mend; give; end; end; end; job main; end"), 5)
        self.assertEqual(bad(WALK + "walk v; guard; late; each w closed; give; end; end; end; job main; end"), 7)
        read("walk w; guard; late; end; give; guard; mend; guard; give; late; end; end; end; job main; end")

    def test_kept_stands_in_jobs(self):
        self.assertEqual(bad(WALK + "walk v; each w kept; end; end; job main; end"), 4)
        read(WALK + "job main; each w kept; end; each w kept; end; end")

    def test_kept_not_within_kept_of_the_same_walk(self):
        self.assertEqual(bad(WALK + "job main; each w kept; each w kept; end; end; end"), 5)
        self.assertEqual(bad(WALK + "job main; each w kept; guard; late; each w kept 1; end; end; end; end"), 7)
        self.assertEqual(bad(WALK + "walk v; end; job main; each w kept; each v kept; each w kept; end; end; end; "
                             "end"), 8)
        read(WALK + "walk v; end; job main; each w kept; each v kept; each w closed; end; each w dropped; end; "
             "end; end; each w closed; each w kept; end; end; end")

    def test_late_and_mend(self):
        for word in ("late", "mend"):
            self.assertEqual(bad("job main; " + word + "; end; end"), 1)
            self.assertEqual(bad("job main; repeat 2; " + word + "; end; end"), 2)
            self.assertEqual(bad(WALK + "job main; each w closed; " + word + "; end; end"), 5)
            self.assertEqual(bad("job main; guard; repeat 2; " + word + "; end; end; end"), 3)
            for other in ("late", "mend"):
                self.assertEqual(bad("job main; guard; " + word + "; " + other + "; end; end"), 3)
                read("job main; guard; " + word + "; guard; " + other + "; end; end; end")

    def test_a_guard_needs_late_or_mend(self):
        self.assertEqual(bad("job main; guard; end; end"), 2)
        self.assertEqual(bad("job main; guard; guard; late; end; end; end"), 5)

    def test_the_first_bad_row_is_told(self):
        self.assertEqual(bad("job main; say; sing; end"), 1)
        self.assertEqual(bad("job main; say a; sing; give"), 2)
        self.assertEqual(bad("say a; job main; sing"), 0)


class Names(unittest.TestCase):
    def test_no_main(self):
        self.assertEqual(raised(Unknown, read, "job a; end").name, "main")
        self.assertEqual(raised(Unknown, read, "walk main; end").name, "main")

    def test_main_is_ahead_of_all(self):
        self.assertEqual(raised(Unknown, read, "job a; begin b; end").name, "main")

    def test_first_unknown_behind_begin(self):
        self.assertEqual(raised(Unknown, read, "job main; begin a; begin z; begin b; end; job a; end").name, "z")
        self.assertEqual(raised(Unknown, read, "walk w; begin w; end; job main; begin v; end").name, "w")
        self.assertEqual(raised(Unknown, read, "job main; repeat 2; guard; begin c; late; begin b; end; end; "
                                "begin a; end").name, "c")

    def test_jobs_may_be_defined_behind(self):
        read("job main; begin a; end; job a; begin main; end")


def sized(rows):
    """A program of so many rows."""
    return "\n".join(["job main"] + ["say a"] * (rows - 2) + ["end"])


def deep(blocks):
    """A job's rows with so many blocks within one another."""
    openers = ["repeat 2", "each w closed", "guard", "repeat 3", "guard", "each w dropped 2", "repeat 1"][:blocks]
    closers = ["late; end" if row == "guard" else "end" for row in reversed(openers)]
    return "; ".join(openers + closers)


def many(sort, number):
    return "; ".join(sort + " " + "abcdefgh"[at] + "; end" for at in range(number))


class Limits(unittest.TestCase):
    def word(self, short):
        return raised(TooMany, read, short).word

    def test_rows(self):
        self.assertEqual(len(Program.read(sized(100))), 100)
        self.assertEqual(raised(TooMany, Program.read, sized(101)).word, "rows")
        self.assertEqual(raised(TooMany, Program.read, sized(120)).word, "rows")

    def test_jobs(self):
        self.assertEqual(len(read(many("job", 5) + "; job main; end").jobs), 6)
        self.assertEqual(self.word(many("job", 6) + "; job main; end"), "jobs")

    def test_walks(self):
        self.assertEqual(len(read(many("walk", 6) + "; job main; end").walks), 6)
        self.assertEqual(self.word(many("walk", 7) + "; job main; end"), "walks")

    def test_deep(self):
        read(WALK + "job main; " + deep(6) + "; end")
        self.assertEqual(self.word(WALK + "job main; " + deep(7) + "; end"), "deep")
        read(WALK + "walk v; " + deep(6) + "; end; job main; end")
        self.assertEqual(self.word(WALK + "walk v; " + deep(7) + "; end; job main; end"), "deep")
        read(WALK + "job main; " + deep(6) + "; " + deep(5) + "; end")

    def test_deep_behind_late_and_mend(self):
        behind = "guard; late; guard; mend; guard; late; guard; mend; guard; late; guard; mend; "
        read("job main; " + behind + "end; " * 6 + "end")
        self.assertEqual(self.word("job main; " + behind + "repeat 2; " + "end; " * 7 + "end"), "deep")

    def test_the_order_of_the_limits(self):
        rows = "; say a" * 90
        jobs, walks, blocks = many("job", 6), many("walk", 7), deep(7)
        main = "; job main; "
        self.assertEqual(self.word(WALK + jobs + "; " + walks + main + blocks + rows + "; end"), "rows")
        self.assertEqual(self.word(WALK + jobs + "; " + walks + main + blocks + "; end"), "jobs")
        self.assertEqual(self.word(WALK + walks + main + blocks + "; end"), "walks")
        self.assertEqual(self.word(WALK + jobs + main + blocks + "; end"), "jobs")

    def test_the_order_of_the_exceptions(self):
        long = "job a" + "; say a" * 110
        self.assertEqual(bad(long), 111)
        self.assertEqual(bad(long + "; sing; end"), 111)
        self.assertEqual(raised(Unknown, read, long + "; end").name, "main")
        self.assertEqual(raised(Unknown, read, long + "; end; job main; begin b; end").name, "b")
        self.assertEqual(self.word(long + "; end; job main; begin a; end"), "rows")
        self.assertEqual(bad("job a; begin b; sing; end"), 2)

    def test_read_takes_its_argument_by_name(self):
        self.assertEqual(str(Program.read(text=text_of("job main; end"))), "job main\nend")
