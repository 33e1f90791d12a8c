"""Points [8], [10], [15] and [16]: turns, blocks, walks that are pulled, outcomes of jobs that no end stops."""

import unittest

from helper import story, told


class Case(unittest.TestCase):
    def check(self, short, expected, **outcomes):
        """The events with their notes, and the outcomes (of `main` alone: `ended`, unless told)."""
        tale = told(short)
        self.assertEqual(story(tale), expected)
        self.assertEqual(tale.outcomes(), outcomes or {"main": "ended"})


class Turns(Case):
    def test_a_job_without_rows(self):
        self.check("job main; end", "end, main.0")

    def test_notes_stay_in_their_order(self):
        self.check("job main; say b; say a; say b; end", "end, main.0 b a b")

    def test_pause_ends_the_turn(self):
        self.check("job main; say a; pause; say b; pause; pause; say c; end",
                   "end, main.0 a, main.1 b, main.2, main.3 c")

    def test_pause_as_the_last_row(self):
        self.check("job main; pause; end", "end, main.0, main.1")

    def test_wait_ends_the_turn_though_the_gate_is_open(self):
        self.check("job main; open g; say a; wait g; say b; end", "end, main.0 a, main.1 b")

    def test_wait_for_a_gate_that_another_job_opens(self):
        self.check("job main; begin b; wait g; say a; end; job b; pause; open g; say b; end",
                   "b.0, b.1 b, end, main.0, main.1 a", main="ended", b="ended")

    def test_a_gate_is_open_for_good(self):
        self.check("job main; open g; pause; wait g; wait g; say a; end", "end, main.0, main.1, main.2, main.3 a")

    def test_gates_of_other_names_stay_closed(self):
        self.check("job main; open h; wait g; say a; end", "end, main.0, main.1", main="stopped")

    def test_rows_that_do_not_end_a_turn(self):
        self.check("walk w; give; give; end; job b; end; job main; open g; begin b; repeat 2; say a; end; "
                   "guard; fail x; mend; say m; end; guard; late; say l; end; each w closed; say i; end; "
                   "each w dropped; end; each w kept; end; say z; end",
                   "b.0, end, main.0 a a m l i i z", main="ended", b="ended")

    def test_turns_are_numbered_from_0(self):
        tale = told("job main; repeat 9; pause; end; pause; pause; end")
        self.assertEqual(tale.events, tuple(sorted(["main." + str(at) for at in range(12)] + ["end"])))
        self.assertEqual(tale.events[:5], ("end", "main.0", "main.1", "main.10", "main.11"))


class Begins(Case):
    def test_a_job_that_is_not_begun_has_no_event(self):
        self.check("job main; end; job b; say b; end", "end, main.0")

    def test_begun_twice(self):
        self.check("job main; begin b; begin b; pause; begin b; end; job b; say b; end",
                   "b.0 b, end, main.0, main.1", main="ended", b="ended")

    def test_begun_by_itself_and_by_each_other(self):
        self.check("job main; begin main; begin b; say a; end; job b; begin b; begin main; say b; end",
                   "b.0 b, end, main.0 a", main="ended", b="ended")

    def test_begun_by_a_walk(self):
        self.check("walk w; begin b; give; end; job main; each w closed; say i; end; end; job b; say b; end",
                   "b.0 b, end, main.0 i", main="ended", b="ended")


class Repeats(Case):
    def test_figures(self):
        for figure in range(1, 10):
            self.check("job main; repeat " + str(figure) + "; say a; end; say b; end",
                       "end, main.0" + " a" * figure + " b")

    def test_within_one_another(self):
        self.check("job main; repeat 2; say a; repeat 3; say b; end; end; end", "end, main.0 a b b b a b b b")

    def test_without_rows(self):
        self.check("job main; repeat 9; end; say a; end", "end, main.0 a")

    def test_over_turns(self):
        self.check("job main; repeat 2; say a; pause; end; say b; end", "end, main.0 a, main.1 a, main.2 b")

    def test_left_by_an_error(self):
        self.check("job main; guard; repeat 3; say a; fail x; say b; end; say c; mend; say m; end; say z; end",
                   "end, main.0 a m z")


class Pulls(Case):
    def test_rows_up_to_give_then_the_body(self):
        self.check("walk w; say a; give; say b; give; say c; end; job main; each w closed; say i; end; say z; end",
                   "end, main.0 a i b i c z")

    def test_a_walk_without_items(self):
        self.check("walk w; say a; end; job main; each w dropped; say i; end; say z; end", "end, main.0 a z")

    def test_a_new_walk_for_each_each(self):
        for how in ("closed", "dropped", "kept"):
            self.check("walk w; say a; give; end; job main; repeat 2; each w " + how + "; say i; end; end; end",
                       "end, main.0 a i a i")

    def test_give_in_blocks(self):
        self.check("walk w; repeat 2; guard; give; say a; late; say l; end; end; guard; fail x; mend; give; end; end; "
                   "job main; each w closed; say i; end; end", "end, main.0 i a l i a l i")

    def test_pauses_in_walks_end_turns_of_the_job(self):
        self.check("walk w; say a; pause; give; pause; say b; end; job main; each w closed; say i; pause; say j; end; "
                   "say z; end", "end, main.0 a, main.1 i, main.2 j, main.3 b z")

    def test_waits_in_walks(self):
        self.check("walk w; wait g; say a; give; end; job main; begin b; each w closed; say i; end; end; "
                   "job b; open g; end", "b.0, end, main.0, main.1 a i", main="ended", b="ended")

    def test_walks_that_pull_walks(self):
        self.check("walk w; say a; give; say b; give; end; walk v; each w closed; say i; give; say j; end; say c; end; "
                   "job main; each v closed; say k; end; end", "end, main.0 a i k j b i k j c")

    def test_a_walk_that_pulls_another_one_twice(self):
        self.check("walk w; give; end; walk v; each w closed; give; each w dropped; give; end; end; end; "
                   "job main; each v kept; say i; end; end", "end, main.0 i i")

    def test_two_walks_of_one_name_side_by_side(self):
        self.check("walk w; say a; give; say b; end; job main; each w closed; say i; each w closed; say j; end; "
                   "say k; end; end", "end, main.0 a i a j b k b")

    def test_an_error_in_a_walk_comes_out_of_the_each(self):
        for how in ("closed", "dropped", "kept"):
            self.check("walk w; give; say a; fail x; say b; end; job main; guard; each w " + how + "; say i; end; "
                       "say c; mend; say m; end; say z; end", "end, main.0 i a m z")

    def test_an_error_in_a_walk_runs_no_cleanups_of_it_again(self):
        self.check("walk w; guard; give; fail x; late; say l; end; end; job main; each w closed; say i; end; end",
                   "end, main.0 i l", main="failed x")

    def test_an_error_through_walks_that_pull_walks(self):
        self.check("walk w; give; fail x; end; walk v; guard; each w closed; give; end; late; say l; end; end; "
                   "job main; guard; each v closed; say i; end; mend; say m; end; end", "end, main.0 i l m")

    def test_an_error_mended_in_the_walk(self):
        self.check("walk w; guard; give; fail x; mend; say m; give; end; say a; end; "
                   "job main; each w closed; say i; end; end", "end, main.0 i m i a")


class Outcomes(Case):
    def test_ended_and_failed(self):
        self.check("job main; begin b; end; job b; say a; fail x; say b; end", "b.0 a, end, main.0",
                   main="ended", b="failed x")

    def test_a_failed_job_does_not_hinder_others(self):
        self.check("job main; begin b; fail y; end; job b; pause; end", "b.0, b.1, end, main.0",
                   main="failed y", b="ended")

    def test_stopped(self):
        self.check("job main; wait g; end", "end, main.0, main.1", main="stopped")

    def test_stopped_with_a_name(self):
        self.check("job main; guard; wait g; late; fail x; end; end", "end, main.0, main.1", main="stopped x")

    def test_closers(self):
        self.check("walk w; guard; give; late; fail x; end; end; walk v; give; end; "
                   "job main; each w dropped 1; end; each v dropped 1; end; end",
                   "end, main.0, main.1, main.2, main/1.0, main/2.0",
                   **{"main": "ended", "main/1": "failed x", "main/2": "ended"})
