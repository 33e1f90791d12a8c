"""Point [9]: guards, and errors that leave them. (Closes: test_leaving.py, stops: test_end.py.)"""

import unittest

from helper import raised, story, told
from lateyields.errors import Unknown


class Case(unittest.TestCase):
    def check(self, rows, notes, outcome="ended"):
        """The notes of one turn of a job with these rows, and its outcome."""
        tale = told("job main; " + rows + "; end")
        self.assertEqual(story(tale), " ".join(["end, main.0"] + notes.split()))
        self.assertEqual(tale.outcomes(), {"main": outcome})


class Late(Case):
    def test_left_by_being_through(self):
        self.check("guard; say a; late; say l; end; say z", "a l z")

    def test_left_by_an_error(self):
        self.check("guard; say a; fail x; say b; late; say l; end; say z", "a l", "failed x")

    def test_late_rows_once_for_each_time(self):
        self.check("repeat 3; guard; say a; late; say l; end; end", "a l a l a l")

    def test_within_one_another(self):
        self.check("guard; guard; say a; late; say k; end; say b; late; say l; end", "a k b l")
        self.check("guard; guard; fail x; late; say k; end; say b; late; say l; end", "k l", "failed x")

    def test_guards_within_late_rows(self):
        self.check("guard; fail x; late; guard; say a; late; say k; end; say l; end; say z", "a k l", "failed x")

    def test_error_in_late_rows_with_none_interrupted(self):
        self.check("guard; say a; late; say l; fail y; say m; end; say z", "a l", "failed y")

    def test_error_in_late_rows_with_an_error_interrupted(self):
        self.check("guard; fail x; late; say l; fail y; say m; end; say z", "l", "failed y")

    def test_error_that_is_mended_in_late_rows(self):
        self.check("guard; fail x; late; guard; fail y; mend; say m; end; say l; end; say z", "m l", "failed x")
        self.check("guard; late; guard; fail y; mend; say m; end; say l; end; say z", "m l z")

    def test_error_in_late_rows_is_mended_further_out(self):
        self.check("guard; guard; fail x; late; fail y; end; mend; say m; end; say z", "m z")

    def test_errors_in_late_rows_within_late_rows(self):
        self.check("guard; guard; fail x; late; guard; say a; late; fail y; end; say b; end; late; say l; end",
                   "a l", "failed y")
        self.check("guard; fail x; late; guard; fail y; late; fail z; end; end", "", "failed z")

    def test_late_rows_over_turns(self):
        tale = told("job main; guard; say a; pause; fail x; late; say l; pause; say m; end; say z; end")
        self.assertEqual(story(tale), "end, main.0 a, main.1 l, main.2 m")
        self.assertEqual(tale.cleanups(), [("main.1", "main.2", True)])

    def test_error_behind_late_rows_that_are_through(self):
        self.check("guard; late; say l; end; fail x", "l", "failed x")

    def test_guards_not_entered(self):
        self.check("guard; fail x; guard; say a; late; say k; end; late; say l; end", "l", "failed x")
        self.check("fail x; guard; late; say l; end", "", "failed x")


class Mend(Case):
    def test_through(self):
        self.check("guard; say a; mend; say m; end; say z", "a z")

    def test_an_error_ends_there(self):
        self.check("guard; say a; fail x; say b; mend; say m; end; say z", "a m z")

    def test_an_error_in_mending_rows(self):
        self.check("guard; fail x; mend; say m; fail y; say n; end; say z", "m", "failed y")

    def test_an_error_in_mending_rows_is_mended_further_out(self):
        self.check("guard; guard; fail x; mend; fail y; end; say a; mend; say m; end; say z", "m z")

    def test_the_innermost_one_mends(self):
        self.check("guard; guard; fail x; mend; say k; end; say a; mend; say m; end; say z", "k a z")

    def test_late_rows_within_guarded_rows(self):
        self.check("guard; guard; fail x; late; say l; end; mend; say m; end; say z", "l m z")

    def test_mend_within_guarded_rows_of_late(self):
        self.check("guard; guard; fail x; mend; say m; end; say a; late; say l; end; say z", "m a l z")

    def test_error_in_mending_rows_within_guarded_rows_of_late(self):
        self.check("guard; guard; fail x; mend; fail y; end; late; say l; end", "l", "failed y")

    def test_late_rows_in_mending_rows(self):
        self.check("guard; fail x; mend; guard; say a; late; say l; end; end; say z", "a l z")

    def test_mending_again(self):
        self.check("repeat 2; guard; say a; fail x; mend; say m; end; end; say z", "a m a m z")

    def test_no_row_at_all(self):
        self.check("guard; mend; end; guard; fail x; mend; end; guard; late; end; say z", "z")


class Cleanups(unittest.TestCase):
    def test_whole_and_not(self):
        tale = told("job main; guard; guard; pause; late; say k; fail x; end; late; pause; say l; end; end")
        self.assertEqual(tale.cleanups(), [("main.1", "main.1", False), ("main.1", "main.2", True)])

    def test_inner_ones_are_ahead(self):
        tale = told("job main; guard; guard; say a; late; pause; say k; end; late; pause; say l; end; end")
        self.assertEqual(tale.cleanups(), [("main.0", "main.1", True), ("main.1", "main.2", True)])
        self.assertEqual(story(tale), "end, main.0 a, main.1 k, main.2 l")

    def test_once_for_each_time(self):
        tale = told("job main; repeat 3; guard; late; end; end; end")
        self.assertEqual(tale.cleanups(), [("main.0", "main.0", True)] * 3)
        self.assertEqual(told("job main; end").cleanups(), [])
        self.assertEqual(raised(Unknown, tale.notes, "main.1").name, "main.1")

    def test_left_by_an_error_that_was_mended_inside(self):
        tale = told("job main; guard; late; guard; fail x; mend; end; end; end")
        self.assertEqual(tale.cleanups(), [("main.0", "main.0", True)])
