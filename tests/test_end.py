"""Points [14] to [18]: the end, jobs that waited there, and kept walks."""

import unittest

from helper import story, told

# A walk that can be closed, and tells when it is.
WALK = "walk w; guard; give; say b; give; late; say l; end; end; "

# A walk whose closing waits, and one whose closing fails then.
SLOW = "walk w; guard; give; late; wait g; say l; end; end; "
SLOWLY = "walk w; guard; give; late; wait g; fail y; end; end; "


class Case(unittest.TestCase):
    def check(self, short, expected, stuck, **outcomes):
        """The events with their notes, the jobs that waited, and the outcomes."""
        tale = told(short)
        self.assertEqual(story(tale), expected)
        self.assertEqual(tale.stuck(), stuck)
        self.assertEqual(tale.outcomes(), outcomes)
        return tale

    def main(self, short, expected, outcome):
        """The same for `main` alone, which waits at gate `g`."""
        return self.check(short, expected, {"main": "g"}, main=outcome)


class NotCleaningUp(Case):
    def test_a_stop_begins_at_its_wait(self):
        self.main("job main; say a; wait g; say b; end", "end, main.0 a, main.1", "stopped")

    def test_late_rows_are_carried_out(self):
        tale = self.main("job main; guard; wait g; say a; late; say l; end; say z; end",
                         "end, main.0, main.1 l", "stopped")
        self.assertEqual(tale.cleanups(), [("main.1", "main.1", True)])

    def test_an_error_in_late_rows_names_the_stop(self):
        tale = self.main("job main; guard; guard; wait g; late; say k; fail x; end; late; say l; end; say z; end",
                         "end, main.0, main.1 k l", "stopped x")
        self.assertEqual(tale.cleanups(), [("main.1", "main.1", False), ("main.1", "main.1", True)])

    def test_a_stop_leaves_guards_without_mending(self):
        self.main("job main; guard; guard; wait g; late; fail x; end; mend; say m; end; say z; end",
                  "end, main.0, main.1", "stopped x")
        self.main("job main; guard; wait g; mend; say m; end; say z; end", "end, main.0, main.1", "stopped")

    def test_a_stop_leaves_repeats_and_mending_rows(self):
        self.main("job main; repeat 3; guard; fail x; mend; wait g; say m; end; say a; end; end",
                  "end, main.0, main.1", "stopped")

    def test_waits_behind_the_end_ask_for_no_gate(self):
        self.main("job main; guard; wait g; late; say k; wait g; say l; wait h; say n; end; say z; end",
                  "end, main.0, main.1 k, main.2 l, main.3 n", "stopped")

    def test_in_a_walk_the_stop_comes_out_of_the_each(self):
        for how in ("closed", "dropped", "kept"):
            self.main("walk w; give; guard; wait g; say a; give; late; say k; end; say b; end; "
                      "job main; guard; each w " + how + "; say i; end; say z; late; say l; end; end",
                      "end, main.0 i, main.1 k l", "stopped")

    def test_in_a_body_the_walk_is_closed(self):
        self.main(WALK + "job main; each w closed; say i; wait g; say j; end; say z; end",
                  "end, main.0 i, main.1, main.2 l, main.3", "stopped")

    def test_a_closing_with_a_name_names_the_stop(self):
        self.main("walk w; guard; give; late; fail y; end; end; job main; guard; each w closed; wait g; end; "
                  "mend; say m; end; end", "end, main.0, main.1, main.2, main.3", "stopped y")

    def test_in_a_body_the_walk_is_dropped(self):
        tale = self.check(WALK + "job main; each w dropped; say i; wait g; end; say z; end",
                          "end, main.0 i, main.1, main.2, main/1.0 l", {"main": "g"},
                          **{"main": "stopped", "main/1": "ended"})
        self.assertEqual(tale.drops("main.1"), ("main/1",))

    def test_in_a_body_the_walk_is_kept_and_handed_over(self):
        tale = self.check(WALK + "job main; each w kept; say i; wait g; end; say z; end",
                          "end, main.0 i, main.1, main.2, main/1.0 l", {"main": "g"},
                          **{"main": "stopped", "main/1": "ended"})
        self.assertEqual((tale.drops("main.1"), tale.drops("main.2")), ((), ("main/1",)))

    def test_in_a_closed_walks_body_within_a_walk(self):
        self.main(WALK + "walk v; guard; each w closed; wait g; give; end; late; say k; end; end; "
                  "job main; each v closed; say i; end; end", "end, main.0, main.1, main.2 l, main.3 k", "stopped")


class CleaningUp(Case):
    def test_late_rows_are_gone_on_with(self):
        tale = self.main("job main; guard; say a; late; wait g; say l; end; say z; end",
                         "end, main.0 a, main.1 l", "stopped")
        self.assertEqual(tale.cleanups(), [("main.0", "main.1", True)])

    def test_a_stop_behind_them_carries_out_others(self):
        self.main("job main; guard; guard; late; wait g; say k; end; say a; late; say l; end; say z; end",
                  "end, main.0, main.1 k l", "stopped")

    def test_the_error_becomes_a_stop_with_its_name(self):
        self.main("job main; guard; guard; fail x; late; wait g; say l; end; mend; say m; end; say z; end",
                  "end, main.0, main.1 l", "stopped x")

    def test_an_error_in_them_becomes_a_stop(self):
        self.main("job main; guard; guard; late; wait g; fail x; end; mend; say m; end; say z; end",
                  "end, main.0, main.1", "stopped x")
        self.main("job main; guard; guard; fail y; late; wait g; fail x; end; mend; say m; end; say z; end",
                  "end, main.0, main.1", "stopped x")

    def test_an_error_mended_in_them(self):
        self.main("job main; guard; late; guard; wait g; fail x; mend; say m; end; say l; end; say z; end",
                  "end, main.0, main.1 m l", "stopped")

    def test_the_outermost_late_rows_count(self):
        self.main("job main; guard; guard; late; guard; late; guard; late; wait g; say h; end; say j; end; say k; end; "
                  "say a; late; say l; end; say z; end", "end, main.0, main.1 h j k l", "stopped")

    def test_names_from_within_the_outermost_late_rows(self):
        self.main("job main; guard; fail y; late; guard; fail x; late; wait g; say k; end; say l; end; end",
                  "end, main.0, main.1 k", "stopped x")

    def test_more_waits_in_them(self):
        self.main("job main; guard; late; wait g; say k; wait h; say l; pause; say n; end; say z; end",
                  "end, main.0, main.1 k, main.2 l, main.3 n", "stopped")

    def test_late_rows_behind_them_are_ordinary(self):
        self.main("job main; guard; guard; late; wait g; say k; end; late; wait h; say l; guard; late; say n; end; "
                  "say o; end; say z; end", "end, main.0, main.1 k, main.2 l n o", "stopped")

    def test_late_rows_of_a_walk(self):
        self.main("walk w; guard; guard; late; wait g; say k; end; say a; late; say h; end; say b; end; "
                  "job main; guard; each w closed; say i; end; say z; late; say l; end; end",
                  "end, main.0, main.1 k h l", "stopped")

    def test_a_walk_pulled_by_late_rows(self):
        self.main("walk w; guard; give; wait g; say a; give; late; say k; end; end; "
                  "job main; guard; late; each w closed; say i; end; say l; end; say z; end",
                  "end, main.0 i, main.1 a i k l", "stopped")

    def test_late_rows_of_a_walk_pulled_by_late_rows(self):
        self.main("walk w; guard; late; wait g; say a; end; say b; give; end; "
                  "job main; guard; late; each w closed; say i; end; say l; end; say z; end",
                  "end, main.0, main.1 a b i l", "stopped")

    def test_a_walk_left_early_in_late_rows(self):
        self.main(WALK + "job main; guard; late; wait g; each w closed 1; say i; end; say k; end; say z; end",
                  "end, main.0, main.1 i, main.2 l, main.3 k", "stopped")

    def test_waiting_in_mending_rows_is_none(self):
        self.main("job main; guard; fail x; mend; guard; wait g; say a; late; say l; end; end; say z; end",
                  "end, main.0, main.1 l", "stopped")

    def test_waiting_behind_late_rows_is_none(self):
        self.main("job main; guard; late; say l; end; wait g; say z; end", "end, main.0 l, main.1", "stopped")


class InClosings(Case):
    def test_the_stop_begins_in_the_next_turn(self):
        tale = self.main(SLOW + "job main; guard; each w closed 1; say i; end; say a; late; say k; end; say z; end",
                         "end, main.0 i, main.1, main.2 l, main.3 k", "stopped")
        self.assertEqual(tale.cleanups(), [("main.1", "main.2", True), ("main.3", "main.3", True)])

    def test_a_close_with_a_name_makes_a_stop_with_it(self):
        self.main(SLOWLY + "job main; guard; each w closed 1; end; mend; say m; end; say z; end",
                  "end, main.0, main.1, main.2, main.3", "stopped y")

    def test_the_error_becomes_a_stop(self):
        self.main(SLOW + "job main; guard; each w closed; fail x; end; mend; say m; end; say z; end",
                  "end, main.0, main.1, main.2 l, main.3", "stopped x")

    def test_the_error_becomes_a_stop_with_the_name_of_the_close(self):
        self.main(SLOWLY + "job main; guard; each w closed; fail x; end; mend; say m; end; say z; end",
                  "end, main.0, main.1, main.2, main.3", "stopped y")

    def test_the_closing_itself_goes_on_as_a_close(self):
        self.main("walk w; guard; guard; give; late; wait g; say k; end; late; say l; wait h; say n; end; end; "
                  "job main; each w closed 1; end; say z; end",
                  "end, main.0, main.1, main.2 k l, main.3 n, main.4", "stopped")

    def test_the_outermost_closing_counts(self):
        self.main(SLOW + "walk v; guard; each w closed; give; end; late; say k; end; end; "
                  "job main; guard; each v closed 1; end; say a; late; say n; end; end",
                  "end, main.0, main.1, main.2, main.3 l, main.4 k, main.5 n", "stopped")

    def test_late_rows_around_a_closing_count(self):
        self.main(SLOW + "job main; guard; late; each w closed 1; end; say k; end; say z; end",
                  "end, main.0, main.1, main.2 l, main.3 k", "stopped")

    def test_a_closing_in_a_walk_that_is_pulled(self):
        self.main(SLOW + "walk v; guard; each w closed 1; end; say a; late; say k; end; end; "
                  "job main; guard; each v closed; end; say b; late; say n; end; end",
                  "end, main.0, main.1, main.2 l, main.3 k n", "stopped")


class Closers(Case):
    def test_they_are_not_stopped(self):
        tale = self.check(SLOW + "job main; each w dropped 1; say i; end; say z; end",
                          "end, main.0 i, main.1 z, main/1.0, main/1.1 l", {"main/1": "g"},
                          **{"main": "ended", "main/1": "ended"})
        self.assertEqual(tale.cleanups(), [("main/1.0", "main/1.1", True)])

    def test_their_names(self):
        self.check(SLOWLY + "job main; each w dropped 1; end; end", "end, main.0, main.1, main/1.0, main/1.1",
                   {"main/1": "g"}, **{"main": "ended", "main/1": "failed y"})

    def test_their_closings_are_not_stopped(self):
        self.check(SLOW + "walk v; guard; each w closed; give; end; late; say k; wait h; say n; end; end; "
                   "job main; each v dropped 1; end; end",
                   "end, main.0, main.1, main/1.0, main/1.1, main/1.2 l, main/1.3 k, main/1.4 n",
                   {"main/1": "g"}, **{"main": "ended", "main/1": "ended"})

    def test_made_behind_the_end(self):
        self.check("walk w; guard; give; late; wait g; say l; end; end; job main; guard; wait h; late; "
                   "each w dropped 1; end; say k; end; end",
                   "end, main.0, main.1, main.2 k, main/1.0, main/1.1 l", {"main": "h"},
                   **{"main": "stopped", "main/1": "ended"})


class End(Case):
    def test_when_all_jobs_are_over(self):
        tale = self.check("job main; begin b; pause; end; job b; end", "b.0, end, main.0, main.1", {},
                          main="ended", b="ended")
        self.assertEqual((tale.notes("end"), tale.drops("end"), tale.opens("end"), tale.begins("end")),
                         ((), (), (), ()))

    def test_when_some_wait(self):
        self.check("job main; begin b; begin c; wait g; end; job b; wait h; end; job c; say c; end",
                   "b.0, b.1, c.0 c, end, main.0, main.1", {"main": "g", "b": "h"},
                   main="stopped", b="stopped", c="ended")

    def test_gates_opened_behind_it_change_nothing(self):
        self.check("job main; begin b; guard; wait g; late; open h; end; end; job b; wait h; say b; end",
                   "b.0, b.1, end, main.0, main.1", {"main": "g", "b": "h"}, main="stopped", b="stopped")

    def test_jobs_begun_behind_it(self):
        tale = self.check("job main; guard; wait g; late; begin b; say l; end; end; "
                          "job b; say a; wait h; say b; guard; wait h; late; wait h; say c; end; say d; end",
                          "b.0 a, b.1 b, b.2, b.3 c d, end, main.0, main.1 l", {"main": "g"},
                          main="stopped", b="ended")
        self.assertEqual(tale.begins("main.1"), ("b",))

    def test_jobs_begun_behind_it_by_such_jobs(self):
        self.check("job main; guard; wait g; late; begin b; end; end; job b; begin c; begin main; begin b; end; "
                   "job c; wait h; say c; end", "b.0, c.0, c.1 c, end, main.0, main.1", {"main": "g"},
                   main="stopped", b="ended", c="ended")

    def test_a_job_begun_ahead_of_it_is_not_begun_again(self):
        self.check("job main; begin b; guard; wait g; late; begin b; end; end; job b; say b; end",
                   "b.0 b, end, main.0, main.1", {"main": "g"}, main="stopped", b="ended")


class KeptWalks(Case):
    def test_handed_over_with_the_end(self):
        tale = self.check(WALK + "job main; each w kept 1; say i; end; say z; end",
                          "end, main.0 i, main.1 z, main/1.0 l", {}, **{"main": "ended", "main/1": "ended"})
        self.assertEqual((tale.drops("end"), tale.drops("main.0"), tale.drops("main.1")), (("main/1",), (), ()))

    def test_handed_over_with_the_last_turn(self):
        tale = self.check(WALK + "job main; each w kept 1; say i; end; wait g; say z; end",
                          "end, main.0 i, main.1, main.2, main/1.0 l", {"main": "g"},
                          **{"main": "stopped", "main/1": "ended"})
        self.assertEqual((tale.drops("end"), tale.drops("main.2")), ((), ("main/1",)))

    def test_handed_over_by_a_job_that_failed(self):
        tale = self.check(WALK + "job main; each w kept; fail x; end; end", "end, main.0, main.1, main/1.0 l", {},
                          **{"main": "failed x", "main/1": "ended"})
        self.assertEqual(tale.drops("end"), ("main/1",))

    def test_pulled_again_behind_the_end(self):
        tale = self.check(WALK + "job main; each w kept 1; say i; end; guard; wait g; late; each w kept; say j; end; "
                          "say k; end; end", "end, main.0 i, main.1, main.2 b j l k", {"main": "g"}, main="stopped")
        self.assertEqual(tale.drops("main.2"), ())

    def test_not_handed_over_when_over(self):
        self.check(WALK + "job main; each w kept 1; say i; end; each w kept; end; end",
                   "end, main.0 i, main.1 b l", {}, main="ended")

    def test_in_the_ascending_order_of_the_names(self):
        tale = self.check("walk w; guard; give; late; say c; end; end; walk v; guard; give; late; say b; end; end; "
                          "walk x; guard; give; late; say a; end; end; job main; each w kept 1; end; each x kept 1; "
                          "end; each v kept 1; end; end",
                          "end, main.0, main.1, main.2, main.3, main/1.0 b, main/2.0 c, main/3.0 a", {},
                          **{"main": "ended", "main/1": "ended", "main/2": "ended", "main/3": "ended"})
        self.assertEqual(tale.drops("end"), ("main/1", "main/2", "main/3"))

    def test_numbers_continue(self):
        tale = self.check(WALK + "job main; each w dropped 1; end; each w kept 1; end; begin b; end; "
                          "job b; each w kept 1; end; end",
                          "b.0, b.1, b/1.0 l, end, main.0, main.1, main.2, main/1.0 l, main/2.0 l", {},
                          **{"main": "ended", "main/1": "ended", "main/2": "ended", "b": "ended", "b/1": "ended"})
        self.assertEqual((tale.drops("main.0"), tale.drops("end")), (("main/1",), ("b/1", "main/2")))

    def test_with_the_last_turn_in_ascending_order(self):
        tale = self.check("walk w; guard; give; late; say c; end; end; walk v; guard; give; late; say b; end; end; "
                          "job main; each w kept 1; end; each v kept; wait g; end; end",
                          "end, main.0, main.1, main.2, main.3, main/1.0 b, main/2.0 c", {"main": "g"},
                          **{"main": "stopped", "main/1": "ended", "main/2": "ended"})
        self.assertEqual(tale.drops("main.3"), ("main/1", "main/2"))

    def test_kept_by_a_job_begun_behind_the_end(self):
        tale = self.check(WALK + "job main; guard; wait g; late; begin b; end; end; job b; each w kept 1; end; say z; "
                          "end", "b.0, b.1 z, b/1.0 l, end, main.0, main.1", {"main": "g"},
                          **{"main": "stopped", "b": "ended", "b/1": "ended"})
        self.assertEqual(tale.drops("b.1"), ("b/1",))

    def test_a_kept_walk_that_is_stopped_is_over(self):
        self.check("walk w; give; guard; wait g; late; say l; end; end; job main; each w kept 1; end; each w kept; end; "
                   "end", "end, main.0, main.1, main.2 l", {"main": "g"}, main="stopped")
