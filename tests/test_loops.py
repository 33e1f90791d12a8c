"""Points [2] and [22]: programs carried out by hand."""

import unittest

from all_orders import event_of
from helper import raised, read, strange_values
from lateyields.cuts import Cut
from lateyields.errors import NotReady, TooLong
from lateyields.loops import Loop
from lateyields.nets import Net
from lateyields.tales import Tale

# `main` waits for `b`, its closer waits for a gate that never opens, `c` is begun behind the end.
SHORT = ("walk w; guard; give; late; say l; wait k; say m; end; end; "
         "job main; say a; begin b; wait g; each w dropped 1; say i; end; say z; "
         "guard; wait h; late; begin c; end; end; "
         "job b; pause; say b; open g; pause; end; job c; say c; wait g; wait never; end")


def looped(short):
    return Loop(read(short))


def state(loop):
    """All that a loop tells."""
    return (loop.ready, loop.past, loop.is_over, loop.places(), loop.outcomes(), loop.cut())


class Case(unittest.TestCase):
    def moments(self, short, *expected):
        """Lets the turns come in an order; each entry is `ready`, the one that comes, and its notes."""
        loop, past = looped(short), ()
        for ready, job, notes in expected:
            self.assertEqual(loop.ready, tuple(ready.split()))
            self.assertFalse(loop.is_over)
            past += (event_of(loop, job),)
            self.assertEqual(loop(job), tuple(notes.split()))
            self.assertEqual(loop.past, past)
        self.assertEqual(loop.ready, ())
        self.assertTrue(loop.is_over)
        self.assertEqual(tuple(sorted(past)), Tale(loop.program).events)


class Ready(Case):
    def test_one_job(self):
        self.moments("job main; say a; pause; say b; say a; end", ("main", "main", "a"), ("main", "main", "b a"),
                     ("end", "end", ""))

    def test_a_job_without_rows(self):
        self.moments("job main; end", ("main", "main", ""), ("end", "end", ""))

    def test_jobs_ascend(self):
        self.moments("job main; begin z; begin b; pause; end; job b; say b; end; job z; say z; end",
                     ("main", "main", ""), ("b main z", "z", "z"), ("b main", "b", "b"), ("main", "main", ""),
                     ("end", "end", ""))

    def test_a_gate(self):
        self.moments("job main; begin b; wait g; say a; end; job b; pause; open g; wait g; say c; end",
                     ("main", "main", ""), ("b", "b", ""), ("b", "b", ""), ("b main", "main", "a"), ("b", "b", "c"),
                     ("end", "end", ""))

    def test_a_wait_behind_an_open_gate(self):
        self.moments("job main; open g; begin b; wait g; end; job b; end",
                     ("main", "main", ""), ("b main", "main", ""), ("b", "b", ""), ("end", "end", ""))

    def test_a_closer(self):
        self.moments("walk w; guard; give; late; say l; pause; say k; end; end; "
                     "job main; each w dropped 1; say i; end; say z; end",
                     ("main", "main", "i"), ("main main/1", "main/1", "l"), ("main main/1", "main/1", "k"),
                     ("main", "main", "z"), ("end", "end", ""))

    def test_closers_and_jobs_ascend_as_strings(self):
        self.moments("walk w; give; end; job main; begin mainz; each w dropped 1; end; end; job mainz; end",
                     ("main", "main", ""), ("main main/1 mainz", "main", ""), ("main/1 mainz", "mainz", ""),
                     ("main/1", "main/1", ""), ("end", "end", ""))

    def test_behind_the_end(self):
        self.moments("job main; begin b; guard; wait g; late; say l; wait h; wait h; say m; begin c; end; end; "
                     "job b; guard; wait g; late; say k; end; end; job c; say c; wait g; say d; end",
                     ("main", "main", ""), ("b", "b", ""), ("end", "end", ""), ("b main", "main", "l"),
                     ("b main", "main", ""), ("b main", "main", "m"), ("b c", "c", "c"), ("b c", "b", "k"),
                     ("c", "c", "d"))

    def test_kept_walks_behind_the_end(self):
        self.moments("walk w; guard; give; late; say l; end; end; walk v; guard; give; late; say k; end; end; "
                     "job main; begin b; each w kept 1; end; each v kept 1; end; end; "
                     "job b; each v kept 1; end; wait g; end",
                     ("main", "main", ""), ("b main", "main", ""), ("b main", "main", ""), ("b", "b", ""),
                     ("b", "b", ""), ("end", "end", ""), ("b main/1 main/2", "main/2", "l"),
                     ("b main/1", "b", ""), ("b/1 main/1", "main/1", "k"), ("b/1", "b/1", "k"))

    def test_ready_is_told_again(self):
        loop = looped(SHORT)
        self.assertEqual(loop.ready, loop.ready)
        self.assertIs(loop.ready.__class__, tuple)
        self.assertEqual(loop.past, ())


class Turns(Case):
    def test_the_call_by_name(self):
        loop = Loop(program=read(SHORT))
        self.assertEqual(loop(job="main"), ("a",))
        self.assertEqual(loop.past, ("main.0",))

    def test_in_place(self):
        loop = looped(SHORT)
        second = loop
        loop += "main"
        self.assertIs(loop, second)
        self.assertEqual(second.past, ("main.0",))
        second += "b"
        self.assertEqual(loop.past, ("main.0", "b.0"))
        self.assertEqual(state(loop), state(second))

    def test_in_place_does_the_same_as_the_call(self):
        one, other = looped(SHORT), looped(SHORT)
        while one.ready:
            job = one.ready[-1]
            one(job)
            other += job
            self.assertEqual(state(one), state(other))

    def test_in_place_to_an_item_and_an_attribute(self):
        class Holder:
            pass

        loop, holder = looped(SHORT), Holder()
        holder.loop, row = loop, [loop]
        holder.loop += "main"
        row[0] += "b"
        self.assertIs(holder.loop, loop)
        self.assertIs(row[0], loop)
        self.assertEqual(loop.past, ("main.0", "b.0"))

    def test_notes_are_a_tuple(self):
        loop = looped("job main; say b; say a; say b; end")
        self.assertEqual(loop("main"), ("b", "a", "b"))
        self.assertEqual(loop("end"), ())

    def test_the_same_notes_as_in_the_tale(self):
        loop = looped(SHORT)
        tale = Tale(loop.program)
        while loop.ready:
            notes = loop(loop.ready[0])
            self.assertEqual(notes, tale.notes(loop.past[-1]))


class Refusals(Case):
    def check(self, loop):
        """Whatever is not ready is refused, and the loop stays as it is."""
        before = state(loop)
        names = ["main", "b", "c", "end", "main/1", "main/2", "main.0", "never"] + strange_values("main")
        for value in names + strange_values("end") + [["main"], ("main",), loop, loop.ready]:
            if isinstance(value, str) and value in loop.ready:
                continue
            for work in (loop, loop.__iadd__):
                error = raised(NotReady, work, value)
                self.assertIs(error.event.__class__, value.__class__)
                self.assertTrue(error.event == value)
            self.assertEqual(state(loop), before)

    def test_at_each_moment(self):
        loop = looped(SHORT)
        self.check(loop)
        while loop.ready:
            loop(loop.ready[-1])
            self.check(loop)

    def test_a_job_that_was_ready(self):
        loop = looped("job main; end")
        loop("main")
        self.assertEqual(raised(NotReady, loop, "main").event, "main")
        loop("end")
        self.assertEqual(raised(NotReady, loop, "end").event, "end")

    def test_the_name_stays_behind_a_refusal_in_place(self):
        loop = second = looped(SHORT)
        with self.assertRaises(NotReady):
            loop += "b"
        self.assertIs(loop, second)
        self.assertEqual(loop.past, ())

    def test_a_list_is_copied(self):
        value = ["main"]
        error = raised(NotReady, looped(SHORT), value)
        value.append("b")
        self.assertEqual(error.event, ["main"])


class Run(Case):
    def test_events_with_their_notes(self):
        loop = looped(SHORT)
        self.assertEqual(list(loop.run(["main", "b", "b", "main"])),
                         [("main.0", ("a",)), ("b.0", ()), ("b.1", ("b",)), ("main.1", ("i",))])
        self.assertEqual(loop.past, ("main.0", "b.0", "b.1", "main.1"))

    def test_tuples_and_the_name(self):
        loop = looped("job main; say a; pause; end")
        self.assertEqual(list(loop.run(jobs=("main", "main", "end"))),
                         [("main.0", ("a",)), ("main.1", ()), ("end", ())])
        self.assertTrue(loop.is_over)

    def test_nothing_is_run(self):
        loop = looped(SHORT)
        self.assertEqual(list(loop.run([])), [])
        self.assertEqual(list(loop.run(())), [])
        self.assertEqual(loop.past, ())

    def test_nothing_comes_before_it_is_asked_for(self):
        loop = looped(SHORT)
        turns = loop.run(["main", "b", "b"])
        self.assertEqual(loop.past, ())
        self.assertEqual(next(turns), ("main.0", ("a",)))
        self.assertEqual(loop.past, ("main.0",))
        self.assertEqual(next(turns), ("b.0", ()))
        self.assertEqual(loop.past, ("main.0", "b.0"))
        turns.close()
        self.assertEqual(loop.past, ("main.0", "b.0"))

    def test_not_even_a_refusal(self):
        loop = looped(SHORT)
        turns = loop.run(["b"])
        self.assertEqual(raised(NotReady, next, turns).event, "b")

    def test_the_list_is_read_when_the_first_is_asked_for(self):
        loop, jobs = looped(SHORT), ["end"]
        turns = loop.run(jobs)
        jobs[:] = ["main", "b"]
        self.assertEqual(next(turns), ("main.0", ("a",)))
        jobs[:] = ["end", "end", "end"]
        self.assertEqual(list(turns), [("b.0", ())])
        self.assertEqual(jobs, ["end"] * 3)

    def test_a_value_that_is_not_ready(self):
        for value in ["main", "end", "c"] + strange_values("b"):
            loop = looped(SHORT)
            turns = loop.run(["main", "b", value, "b"])
            self.assertEqual([next(turns), next(turns)], [("main.0", ("a",)), ("b.0", ())])
            error = raised(NotReady, next, turns)
            self.assertTrue(error.event == value)
            self.assertEqual(loop.past, ("main.0", "b.0"))
            self.assertEqual(list(turns), [])
            self.assertEqual(loop.ready, ("b",))

    def test_other_turns_between(self):
        loop = looped("job main; begin b; pause; say a; end; job b; say b; pause; say c; end")
        turns = loop.run(["main", "b", "b"])
        next(turns)
        loop("main")
        self.assertEqual(list(turns), [("b.0", ("b",)), ("b.1", ("c",))])
        self.assertEqual(loop.past, ("main.0", "main.1", "b.0", "b.1"))

    def test_two_at_once(self):
        loop = looped("job main; begin b; pause; say a; end; job b; say b; pause; say c; end")
        one, other = loop.run(["main", "main"]), loop.run(["b", "b"])
        self.assertEqual([next(one), next(other), next(one), next(other)],
                         [("main.0", ()), ("b.0", ("b",)), ("main.1", ("a",)), ("b.1", ("c",))])


class Finish(Case):
    def least_first(self, loop):
        """The events that come when the least comes each time."""
        other, found = loop.copied(), []
        while other.ready:
            other(other.ready[0])
            found.append(other.past[-1])
        return found

    def test_from_each_moment(self):
        whole = len(Tale(read(SHORT)).events)
        for many in range(whole + 1):
            loop = looped(SHORT)
            for _ in range(many):
                loop(loop.ready[-1])
            expected, past = self.least_first(loop), loop.past
            found = loop.finish()
            self.assertEqual(found, expected)
            self.assertIs(found.__class__, list)
            self.assertEqual(len(found), whole - many)
            self.assertEqual(loop.past, past + tuple(found))
            self.assertTrue(loop.is_over)

    def test_from_the_beginning(self):
        loop = looped("job main; begin b; pause; end; job b; say b; wait g; end")
        self.assertEqual(loop.finish(), ["main.0", "b.0", "main.1", "end", "b.1"])

    def test_when_over(self):
        loop = looped("job main; end")
        loop.finish()
        self.assertEqual(loop.finish(), [])
        self.assertEqual(loop.past, ("main.0", "end"))

    def test_lists_are_new(self):
        loop = looped(SHORT)
        found = loop.finish()
        past = loop.past
        found.clear()
        self.assertEqual(loop.past, past)


class Cuts(Case):
    def test_at_each_moment(self):
        loop = looped(SHORT)
        net = Net.of(loop.program)
        while True:
            cut = loop.cut()
            self.assertTrue(cut == Cut(net, loop.past))
            self.assertTrue(cut.net == net)
            self.assertEqual(cut.events, tuple(sorted(loop.past)))
            self.assertEqual(cut.ready, tuple(sorted([event_of(loop, job) for job in loop.ready])))
            self.assertEqual(cut.is_full, loop.is_over)
            if loop.is_over:
                return
            loop(loop.ready[-1])
            self.assertFalse(loop.cut() == cut)


class Places(unittest.TestCase):
    def places(self, short, *expected):
        """Each entry is the job that comes, then the places behind it, then the outcomes."""
        loop = looped(short)
        self.assertEqual((loop.places(), loop.outcomes()), ({"main": "pause"}, {}))
        for job, places, outcomes in expected:
            loop(job)
            self.assertEqual(loop.places(), places)
            self.assertEqual(loop.outcomes(), outcomes)
        self.assertTrue(loop.is_over)

    def test_one_job(self):
        self.places("job main; pause; end", ("main", {"main": "pause"}, {}), ("main", {}, {"main": "ended"}),
                    ("end", {}, {"main": "ended"}))

    def test_a_gate_that_opens(self):
        self.places("job main; begin b; wait g; end; job b; pause; open g; wait g; fail x; end",
                    ("main", {"b": "pause", "main": "g"}, {}),
                    ("b", {"b": "pause", "main": "g"}, {}),
                    ("b", {"b": "pause", "main": "pause"}, {}),
                    ("main", {"b": "pause"}, {"main": "ended"}),
                    ("b", {}, {"b": "failed x", "main": "ended"}),
                    ("end", {}, {"b": "failed x", "main": "ended"}))

    def test_behind_the_end(self):
        self.places("job main; begin b; guard; wait g; late; wait h; begin c; fail x; end; end; job b; wait h; end; "
                    "job c; wait g; end",
                    ("main", {"b": "pause", "main": "g"}, {}),
                    ("b", {"b": "h", "main": "g"}, {}),
                    ("end", {"b": "pause", "main": "pause"}, {}),
                    ("main", {"b": "pause", "main": "pause"}, {}),
                    ("b", {"main": "pause"}, {"b": "stopped"}),
                    ("main", {"c": "pause"}, {"b": "stopped", "main": "stopped x"}),
                    ("c", {"c": "pause"}, {"b": "stopped", "main": "stopped x"}),
                    ("c", {}, {"b": "stopped", "c": "ended", "main": "stopped x"}))

    def test_closers(self):
        self.places("walk w; guard; give; late; wait k; fail x; end; end; job main; each w dropped 1; end; end",
                    ("main", {"main": "pause", "main/1": "pause"}, {}),
                    ("main/1", {"main": "pause", "main/1": "k"}, {}),
                    ("main", {"main/1": "k"}, {"main": "ended"}),
                    ("end", {"main/1": "pause"}, {"main": "ended"}),
                    ("main/1", {}, {"main": "ended", "main/1": "failed x"}))

    def test_where_walks_are_left(self):
        self.places("walk w; guard; give; late; wait g; end; end; job main; each w closed 1; end; open h; wait h; end",
                    ("main", {"main": "pause"}, {}),
                    ("main", {"main": "g"}, {}),
                    ("end", {"main": "pause"}, {}),
                    ("main", {"main": "pause"}, {}),
                    ("main", {}, {"main": "stopped"}))

    def test_dicts_are_new(self):
        loop = looped("job main; begin b; end; job b; wait g; end")
        loop("main")
        for tell in (loop.places, loop.outcomes):
            first = tell()
            first.clear()
            self.assertEqual(len(tell()), 1)
            tell()["main"] = "x"
        self.assertEqual((loop.places(), loop.outcomes()), ({"b": "pause"}, {"main": "ended"}))

    def test_the_last_outcomes_are_those_of_the_tale(self):
        loop = looped(SHORT)
        loop.finish()
        self.assertEqual(loop.outcomes(), Tale(loop.program).outcomes())


class Copied(unittest.TestCase):
    def test_the_same_state_at_each_moment(self):
        loop = looped(SHORT)
        while True:
            copy = loop.copied()
            self.assertIsNot(copy, loop)
            self.assertIs(copy.__class__, Loop)
            self.assertEqual(state(copy), state(loop))
            if loop.is_over:
                return
            loop(loop.ready[-1])

    def test_independent_both_ways(self):
        whole = len(Tale(read(SHORT)).events)
        for many in range(whole):
            loop = looped(SHORT)
            for _ in range(many):
                loop(loop.ready[-1])
            before = state(loop)
            copy = loop.copied()
            first = copy.finish()
            self.assertEqual(state(loop), before)
            copy = loop.copied()
            second = loop.finish()
            self.assertEqual(first, second)
            self.assertEqual(state(copy), before)

    def test_turn_by_turn(self):
        one = looped(SHORT)
        one("main")
        other = one.copied()
        self.assertEqual(list(one.run(["b", "b"])), [("b.0", ()), ("b.1", ("b",))])
        self.assertEqual(other.past, ("main.0",))
        self.assertEqual(list(other.run(["b", "b"])), [("b.0", ()), ("b.1", ("b",))])
        one("main")
        other("b")
        self.assertEqual((one.past[-1], other.past[-1]), ("main.1", "b.2"))
        self.assertEqual(sorted(list(one.past) + one.finish()), sorted(list(other.past) + other.finish()))

    def test_copies_of_copies(self):
        loop = looped(SHORT)
        loop("main")
        copy = loop.copied().copied()
        copy("b")
        self.assertEqual((loop.past, copy.past), (("main.0",), ("main.0", "b.0")))


class Tried(unittest.TestCase):
    def setUp(self):
        self.loop = looped(SHORT)
        self.loop("main")
        self.before = state(self.loop)

    def same(self):
        self.assertEqual(state(self.loop), self.before)

    def test_what_work_returns(self):
        value = object()
        self.assertIs(self.loop.tried(lambda loop: value), value)
        self.assertIsNone(self.loop.tried(work=lambda loop: None))
        self.same()

    def test_work_is_passed_the_loop(self):
        self.assertIs(self.loop.tried(lambda loop: loop), self.loop)
        self.assertEqual(self.loop.tried(state), self.before)

    def test_turns_are_taken_back(self):
        self.assertEqual(self.loop.tried(Loop.finish), self.loop.copied().finish())
        self.same()
        self.assertEqual(self.loop.tried(lambda loop: loop("b")), ())
        self.same()
        self.assertEqual(self.loop("b"), ())

    def test_in_place(self):
        def work(loop):
            loop += "b"
            loop += "b"
            return loop.past

        self.assertEqual(self.loop.tried(work), ("main.0", "b.0", "b.1"))
        self.same()

    def test_work_that_raises(self):
        class Own(Exception):
            pass

        class Base(BaseException):
            pass

        def work(loop):
            loop("b")
            raise kind

        for kind in (Own, Base, KeyError, KeyboardInterrupt, GeneratorExit, StopIteration):
            self.assertRaises(kind, self.loop.tried, work)
            self.same()

    def test_the_error_of_work_comes_out(self):
        error = ValueError("x")

        def work(loop):
            loop.finish()
            raise error

        with self.assertRaises(ValueError) as caught:
            self.loop.tried(work)
        self.assertIs(caught.exception, error)
        self.same()

    def test_work_that_is_refused(self):
        def work(loop):
            return list(loop.run(["b", "b", "c"]))

        self.assertEqual(raised(NotReady, self.loop.tried, work).event, "c")
        self.same()

    def test_within_one_another(self):
        def inner(loop):
            loop("b")
            return loop.past

        def outer(loop):
            loop("b")
            found = loop.tried(inner)
            self.assertEqual(loop.past, ("main.0", "b.0"))
            self.assertRaises(ZeroDivisionError, loop.tried, lambda other: other.finish() and 1 // 0)
            self.assertEqual(loop.past, ("main.0", "b.0"))
            loop("b")
            return found, loop.past

        self.assertEqual(self.loop.tried(outer), (("main.0", "b.0", "b.1"), ("main.0", "b.0", "b.1")))
        self.same()

    def test_a_copy_made_within_stays(self):
        def work(loop):
            loop("b")
            return loop.copied()

        copy = self.loop.tried(work)
        self.assertEqual(copy.past, ("main.0", "b.0"))
        self.same()
        self.loop.finish()
        self.assertEqual(copy.past, ("main.0", "b.0"))

    def test_from_each_moment(self):
        loop = looped(SHORT)
        while loop.ready:
            before = state(loop)
            self.assertEqual(loop.tried(Loop.finish), loop.copied().finish())
            self.assertEqual(state(loop), before)
            loop(loop.ready[-1])
        self.assertEqual(loop.tried(Loop.finish), [])

    def test_turns_behind_it(self):
        self.loop.tried(Loop.finish)
        other = looped(SHORT)
        other("main")
        self.assertEqual(self.loop.finish(), other.finish())
        self.assertEqual(state(self.loop), state(other))

    def test_what_is_no_work(self):
        self.assertRaises(TypeError, self.loop.tried, None)
        self.same()


class Beside(unittest.TestCase):
    def test_two_loops_and_a_tale(self):
        program = read(SHORT)
        tale, one, other = Tale(program), Loop(program), Loop(program)
        notes, outcomes = [tale.notes(event) for event in tale.events], tale.outcomes()
        one("main")
        self.assertEqual((one.past, other.past), (("main.0",), ()))
        events = one.finish()
        self.assertEqual(other.past, ())
        self.assertEqual(other.places(), {"main": "pause"})
        self.assertEqual(other.finish(), ["main.0"] + events)
        self.assertEqual([tale.notes(event) for event in tale.events], notes)
        self.assertEqual(tale.outcomes(), outcomes)
        self.assertTrue(program == read(SHORT))


# Carries out 1 + 9 + 81 + 243 rows.
LONG = "repeat 9; repeat 9; repeat 3; say a; end; end; end; "


class Long(unittest.TestCase):
    def test_400_rows(self):
        loop = looped("job main; " + LONG + "say a; " * 66 + "end")
        self.assertEqual(len(loop("main")), 309)
        raised(TooLong, looped, "job main; " + LONG + "say a; " * 67 + "end")
        raised(TooLong, Loop, program=read("job main; " + LONG + "say a; " * 67 + "end"))

    def test_rows_behind_the_end_count(self):
        short = "job main; guard; wait g; late; begin b; end; end; job b; " + LONG
        loop = looped(short + "say b; " * 63 + "end")
        self.assertEqual(loop.finish(), ["main.0", "end", "main.1", "b.0"])
        raised(TooLong, looped, short + "say b; " * 64 + "end")

    def test_many_turns(self):
        loop = looped("job main; " + "repeat 9; repeat 9; " + "pause; " * 3 + "end; end; " + "pause; " * 66 + "end")
        self.assertEqual(loop.finish()[-2:], ["main.309", "end"])
        self.assertEqual(len(loop.cut()), 311)
        self.assertEqual(len(loop.copied().past), 311)
