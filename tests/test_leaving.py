"""Points [10] to [13]: each left early, closings, closers and kept walks, ahead of the end."""

import unittest

from helper import story, told

# Gives three items; its cleanup makes a note.
WALK = "walk w; guard; give; say b; give; say c; give; say d; late; say l; end; say e; end; "


class Case(unittest.TestCase):
    def check(self, short, expected, **outcomes):
        """The events with their notes, and the outcomes (of `main` alone: `ended`, unless told)."""
        tale = told(short)
        self.assertEqual(story(tale), expected)
        self.assertEqual(tale.outcomes(), outcomes or {"main": "ended"})
        return tale


class NotLeftEarly(Case):
    def test_through(self):
        for how in ("closed", "dropped", "kept"):
            tale = self.check(WALK + "job main; each w " + how + "; say i; end; say z; end",
                              "end, main.0 i b i c i d l e z")
            self.assertEqual(tale.drops("main.0"), ())

    def test_fewer_items_than_the_figure(self):
        for how in ("closed", "dropped", "kept"):
            tale = self.check(WALK + "job main; each w " + how + " 4; say i; end; say z; end",
                              "end, main.0 i b i c i d l e z")
            self.assertEqual(tale.drops("end"), ())


class Closed(Case):
    def test_left_by_the_item(self):
        self.check(WALK + "job main; each w closed 1; say i; end; say z; end", "end, main.0 i, main.1 l, main.2 z")
        self.check(WALK + "job main; each w closed 2; say i; end; say z; end", "end, main.0 i b i, main.1 l, main.2 z")

    def test_left_behind_the_last_item(self):
        self.check(WALK + "job main; each w closed 3; say i; end; say z; end",
                   "end, main.0 i b i c i, main.1 l, main.2 z")

    def test_left_by_an_error(self):
        self.check(WALK + "job main; guard; each w closed; say i; fail x; say j; end; say k; mend; say m; end; end",
                   "end, main.0 i, main.1 l, main.2 m")

    def test_left_by_an_error_that_leaves_the_job(self):
        self.check(WALK + "job main; each w closed 2; say i; fail x; end; say z; end",
                   "end, main.0 i, main.1 l, main.2", main="failed x")

    def test_left_by_an_error_behind_the_figure(self):
        self.check(WALK + "job main; each w closed 1; say i; fail x; end; end",
                   "end, main.0 i, main.1 l, main.2", main="failed x")

    def test_a_walk_with_no_cleanup(self):
        self.check("walk w; give; say a; end; job main; each w closed 1; end; say z; end",
                   "end, main.0, main.1, main.2 z")

    def test_a_close_leaves_repeats_and_mends(self):
        self.check("walk w; repeat 2; guard; guard; give; mend; say m; end; late; say l; end; end; say a; end; "
                   "job main; each w closed 1; say i; end; say z; end", "end, main.0 i, main.1 l, main.2 z")

    def test_a_close_in_mending_rows(self):
        self.check("walk w; guard; fail x; mend; give; say m; end; say a; end; "
                   "job main; each w closed 1; end; say z; end", "end, main.0, main.1, main.2 z")

    def test_a_closing_over_turns(self):
        tale = self.check("walk w; guard; give; late; say k; pause; say l; end; end; "
                          "job main; each w closed 1; end; say z; end", "end, main.0, main.1 k, main.2 l, main.3 z")
        self.assertEqual(tale.cleanups(), [("main.1", "main.2", True)])

    def test_a_closing_that_waits(self):
        tale = self.check("walk w; guard; give; late; wait g; say l; end; end; job main; begin b; each w closed 1; end; "
                          "say z; end; job b; pause; open g; end",
                          "b.0, b.1, end, main.0, main.1, main.2 l, main.3 z", main="ended", b="ended")
        self.assertEqual(tale.stuck(), {})

    def test_a_closing_with_a_name_begins_an_error(self):
        self.check("walk w; guard; give; late; say l; fail y; end; end; job main; guard; each w closed 1; end; say a; "
                   "mend; say m; end; say z; end", "end, main.0, main.1 l, main.2 m z")
        self.check("walk w; guard; give; late; fail y; end; end; job main; each w closed 1; end; end",
                   "end, main.0, main.1, main.2", main="failed y")

    def test_a_closing_with_a_name_changes_that_of_an_error(self):
        self.check("walk w; guard; give; late; fail y; end; end; job main; each w closed; fail x; end; end",
                   "end, main.0, main.1, main.2", main="failed y")

    def test_a_closing_without_a_name_leaves_the_error_its_own(self):
        self.check("walk w; guard; give; late; guard; fail y; mend; end; end; end; "
                   "job main; each w closed; fail x; end; end", "end, main.0, main.1, main.2", main="failed x")

    def test_a_close_with_a_name_is_not_mended_in_its_walk(self):
        self.check("walk w; guard; guard; give; late; fail y; end; say a; mend; say m; end; say b; end; "
                   "job main; each w closed 1; end; end", "end, main.0, main.1, main.2", main="failed y")

    def test_the_last_error_names_the_close(self):
        self.check("walk w; guard; guard; give; late; fail y; end; late; fail z; end; end; "
                   "job main; each w closed 1; end; end", "end, main.0, main.1, main.2", main="failed z")
        self.check("walk w; guard; guard; give; late; fail y; end; late; say l; end; end; "
                   "job main; each w closed 1; end; end", "end, main.0, main.1 l, main.2", main="failed y")

    def test_closings_within_closings(self):
        self.check("walk w; guard; give; late; say k; end; end; "
                   "walk v; guard; each w closed; give; end; late; say l; end; end; "
                   "job main; each v closed 1; say i; end; say z; end",
                   "end, main.0 i, main.1, main.2 k, main.3 l, main.4 z")

    def test_a_name_goes_through_closings_within_closings(self):
        self.check("walk w; guard; give; late; fail y; end; end; walk v; each w closed; give; end; end; "
                   "job main; guard; each v closed 1; say i; end; mend; say m; end; end",
                   "end, main.0 i, main.1, main.2, main.3, main.4 m")

    def test_closings_in_late_rows(self):
        self.check(WALK + "job main; guard; fail x; late; each w closed 1; say i; end; say k; end; say z; end",
                   "end, main.0 i, main.1 l, main.2 k", main="failed x")

    def test_a_closing_with_a_name_in_late_rows(self):
        self.check("walk w; guard; give; late; fail y; end; end; "
                   "job main; guard; fail x; late; each w closed 1; end; say k; end; end",
                   "end, main.0, main.1, main.2", main="failed y")

    def test_late_rows_of_a_closing_pull_walks(self):
        self.check("walk w; say a; give; end; walk v; guard; give; late; each w closed; say j; end; end; end; "
                   "job main; each v closed 1; say i; end; say z; end", "end, main.0 i, main.1 a j, main.2 z")

    def test_an_each_in_the_body_of_another_one(self):
        self.check("walk w; guard; give; give; late; say l; end; end; job main; each w closed 2; say i; "
                   "each w closed 1; say j; end; end; end",
                   "end, main.0 i j, main.1 l, main.2 i j, main.3 l, main.4, main.5 l, main.6")

    def test_an_error_closes_from_the_inside_to_the_outside(self):
        self.check("walk w; guard; give; late; say k; end; end; walk v; guard; give; late; say l; end; end; "
                   "job main; guard; each v closed; each w closed; fail x; end; end; late; say m; end; end",
                   "end, main.0, main.1 k, main.2, main.3 l, main.4 m", main="failed x")


class Dropped(Case):
    def test_left_by_the_item(self):
        tale = self.check(WALK + "job main; each w dropped 2; say i; end; say z; end",
                          "end, main.0 i b i, main.1 z, main/1.0 l", **{"main": "ended", "main/1": "ended"})
        self.assertEqual(tale.drops("main.0"), ("main/1",))
        self.assertEqual(tale.drops("main.1"), ())

    def test_left_by_an_error(self):
        self.check(WALK + "job main; guard; each w dropped; say i; fail x; end; mend; say m; end; end",
                   "end, main.0 i, main.1 m, main/1.0 l", **{"main": "ended", "main/1": "ended"})
        self.check(WALK + "job main; each w dropped; say i; fail x; end; end",
                   "end, main.0 i, main.1, main/1.0 l", **{"main": "failed x", "main/1": "ended"})

    def test_a_closer_has_one_turn_at_least(self):
        self.check("walk w; give; say a; end; job main; each w dropped 1; end; end", "end, main.0, main.1, main/1.0",
                   **{"main": "ended", "main/1": "ended"})

    def test_a_closer_over_turns(self):
        self.check("walk w; guard; give; late; say k; pause; say l; wait g; say m; end; end; "
                   "job main; each w dropped 1; end; open g; end",
                   "end, main.0, main.1, main/1.0 k, main/1.1 l, main/1.2 m", **{"main": "ended", "main/1": "ended"})

    def test_a_closer_whose_close_has_a_name(self):
        self.check("walk w; guard; give; late; say l; fail y; end; end; job main; guard; each w dropped 1; end; mend; "
                   "say m; end; say z; end", "end, main.0, main.1 z, main/1.0 l",
                   **{"main": "ended", "main/1": "failed y"})

    def test_the_error_keeps_its_name(self):
        self.check("walk w; guard; give; late; fail y; end; end; job main; each w dropped; fail x; end; end",
                   "end, main.0, main.1, main/1.0", **{"main": "failed x", "main/1": "failed y"})

    def test_numbers(self):
        tale = self.check("walk w; give; end; job main; begin b; repeat 2; each w dropped 1; end; end; "
                          "each w dropped 1; end; end; job b; each w dropped 1; end; end",
                          "b.0, b.1, b/1.0, end, main.0, main.1, main.2, main.3, main/1.0, main/2.0, main/3.0",
                          **{"main": "ended", "b": "ended", "b/1": "ended", "main/1": "ended", "main/2": "ended",
                             "main/3": "ended"})
        self.assertEqual([tale.drops("main." + at) for at in "0123"], [("main/1",), ("main/2",), ("main/3",), ()])
        self.assertEqual(tale.drops("b.0"), ("b/1",))

    def test_closers_of_closers(self):
        tale = self.check("walk w; guard; give; late; say k; end; end; "
                          "walk v; guard; each w dropped; give; end; late; say l; end; end; "
                          "job main; each v dropped 1; say i; end; end",
                          "end, main.0 i, main.1, main/1.0, main/1.1 l, main/1/1.0 k",
                          **{"main": "ended", "main/1": "ended", "main/1/1": "ended"})
        self.assertEqual(tale.drops("main/1.0"), ("main/1/1",))

    def test_a_closing_drops(self):
        self.check("walk w; guard; give; late; say k; end; end; walk v; each w dropped; give; end; end; "
                   "job main; each v closed 1; say i; end; say z; end",
                   "end, main.0 i, main.1, main.2, main.3 z, main/1.0 k", **{"main": "ended", "main/1": "ended"})

    def test_a_closer_closes(self):
        self.check("walk w; guard; give; late; say k; end; end; walk v; guard; each w closed; give; end; late; say l; "
                   "end; end; job main; each v dropped 1; say i; end; say z; end",
                   "end, main.0 i, main.1 z, main/1.0, main/1.1 k, main/1.2 l",
                   **{"main": "ended", "main/1": "ended"})

    def test_a_name_through_a_closers_closing(self):
        self.check("walk w; guard; give; late; fail y; end; end; walk v; guard; each w closed; give; end; late; say l; "
                   "end; end; job main; each v dropped 1; end; end",
                   "end, main.0, main.1, main/1.0, main/1.1, main/1.2 l", **{"main": "ended", "main/1": "failed y"})

    def test_walks_that_drop_while_they_are_pulled(self):
        tale = self.check("walk w; guard; give; late; say k; end; end; walk v; each w dropped 1; give; end; say a; end; "
                          "job main; each v closed; say i; end; end",
                          "end, main.0 i, main.1 a, main/1.0 k", **{"main": "ended", "main/1": "ended"})
        self.assertEqual(tale.begins("main.0"), ())


class Kept(Case):
    def test_pulled_from_where_it_stands(self):
        self.check(WALK + "job main; each w kept 1; say i; end; say j; each w kept 1; say k; end; each w kept; say n; "
                   "end; say z; end", "end, main.0 i, main.1 j b k, main.2 c n d l e z")

    def test_the_figure_counts_from_the_beginning_of_this_each(self):
        self.check(WALK + "job main; repeat 2; each w kept 2; say i; end; end; say z; end",
                   "end, main.0 i b i, main.1 c i d l e z")

    def test_a_new_one_when_the_kept_one_is_over(self):
        self.check("walk w; say a; give; say b; end; job main; each w kept 1; end; each w kept; end; each w kept; "
                   "say i; end; say z; end", "end, main.0 a, main.1 b a i b z")

    def test_a_new_one_when_the_kept_one_has_failed(self):
        self.check("walk w; say a; give; fail x; end; job main; each w kept 1; end; guard; each w kept; end; mend; "
                   "say m; end; guard; each w kept; say i; end; mend; say n; end; end",
                   "end, main.0 a, main.1 m a i n")

    def test_left_by_an_error_and_pulled_again(self):
        self.check(WALK + "job main; guard; each w kept; say i; fail x; end; mend; say m; end; each w kept; say j; end; "
                   "say z; end", "end, main.0 i, main.1 m b j c j d l e z")

    def test_not_pulled_by_an_each_of_another_kind(self):
        self.check("walk w; say a; give; say b; end; job main; each w kept 1; end; each w closed; say i; end; "
                   "each w kept; say j; end; end", "end, main.0 a, main.1 a i b b")

    def test_pulled_in_the_bodies_of_other_kinds(self):
        self.check("walk w; say a; give; say b; give; end; job main; each w kept 1; end; each w closed; say i; "
                   "each w kept 1; say j; end; end; each w kept; end; end",
                   "end, main.0 a, main.1 a i b j, main.2 b i a b")

    def test_each_job_has_its_own(self):
        self.check("walk w; say a; give; say b; end; job main; begin b; each w kept 1; end; each w kept; end; end; "
                   "job b; each w kept; say i; end; end",
                   "b.0 a i b, end, main.0 a, main.1 b", main="ended", b="ended")

    def test_walks_of_unlike_names(self):
        self.check("walk w; say a; give; say b; end; walk v; say c; give; say d; end; job main; each w kept 1; end; "
                   "each v kept 1; end; each w kept; end; each v kept; end; end",
                   "end, main.0 a, main.1 c, main.2 b d")

    def test_in_late_rows(self):
        self.check("walk w; say a; give; say b; end; job main; guard; each w kept; fail x; end; late; each w kept; "
                   "end; say l; end; say z; end", "end, main.0 a, main.1 b l", main="failed x")
