"""Points [16] to [20]: whatever order the turns come in, and walks dropped instead of closed."""

import random
import unittest

from all_orders import cuts_of, event_of, loops_behind, ready_of, schedules_of
from any_program import program_text
from helper import told
from lateyields.errors import TooLong, TooMany
from lateyields.loops import Loop
from lateyields.nets import Net
from lateyields.programs import Program
from lateyields.tales import Tale
from plain_run import Long, PlainRun

PROGRAMS = 1500
ORDERS = 3

# So many schedules of a program are looked at, no program with more.
MOST = 150


def tale_of(text):
    """The tale, `"long"`, or None where the text has too many rows."""
    try:
        return Tale(Program.read(text))
    except TooLong:
        return "long"
    except TooMany:
        return None


def plain_run(text, choose):
    try:
        return PlainRun(text, choose)
    except Long:
        return "long"


def told_programs(many):
    """The tales of programs that are made by chance, without those that are too long."""
    tales = [tale_of(program_text(seed)) for seed in range(many)]
    return [tale for tale in tales if isinstance(tale, Tale)]


class WatchedRun(PlainRun):
    """Remembers at each moment what is ready, where jobs stand, and the outcomes."""

    def ready(self):
        found = PlainRun.ready(self)
        places, outcomes = {}, {}
        for name, job in self.jobs.items():
            if job.outcome is not None:
                outcomes[name] = job.outcome
            elif self.ended or job.gate is None or job.gate in self.gates:
                places[name] = "pause"
            else:
                places[name] = job.gate
        able = tuple(found) if found or self.ended else ("end",)
        self.__dict__.setdefault("moments", []).append((able, places, outcomes, tuple(self.events)))
        return found


class ByTheOtherWay(unittest.TestCase):
    """Tales against a second implementation, which takes the turns in any order."""

    def compare(self, tale, run):
        self.assertEqual(tale.events, tuple(sorted(run.events)))
        for event in tale.events:
            self.assertEqual(tale.notes(event), tuple(run.notes[event]))
            for tell, told_there in ((tale.opens, run.opens), (tale.begins, run.begins), (tale.drops, run.drops)):
                self.assertEqual(tell(event), tuple(sorted(set(told_there[event]))))
        self.assertEqual(tale.outcomes(), run.outcomes)
        self.assertEqual(tale.stuck(), run.stuck)
        self.assertEqual(tale.cleanups(), sorted(run.cleanups))

    def test_programs_by_chance(self):
        compared = 0
        for seed in range(PROGRAMS):
            text = program_text(seed)
            tale = tale_of(text)
            if tale is None:
                continue
            for order in range(ORDERS):
                run = plain_run(text, random.Random(seed * ORDERS + order).choice)
                with self.subTest(text=text, order=order):
                    if "long" in (tale, run):
                        self.assertEqual(tale, run)
                    else:
                        self.compare(tale, run)
                        compared += 1
        self.assertGreaterEqual(compared, PROGRAMS)


    def test_loops_at_each_moment(self):
        for seed, tale in enumerate(told_programs(PROGRAMS // 3)):
            run = WatchedRun(str(tale.program), random.Random(seed).choice)
            loop = Loop(tale.program)
            for at, (able, places, outcomes, past) in enumerate(run.moments):
                self.assertEqual((loop.ready, loop.places(), loop.outcomes(), loop.past),
                                 (able, places, outcomes, past), str(tale.program))
                if at < len(run.events):
                    name = run.events[at].rpartition(".")[0] or "end"
                    self.assertEqual(loop(name), tuple(run.notes[run.events[at]]))
            self.assertTrue(loop.is_over)


class NetsOfPrograms(unittest.TestCase):
    """The rows of events that a loop lets come are exactly the schedules of the net."""

    def test_all_schedules(self):
        compared = 0
        for tale in told_programs(PROGRAMS):
            net = Net.of(tale.program)
            schedules = schedules_of(net, MOST)
            if schedules is None or len(schedules) == 1:
                continue
            loops = loops_behind(tale.program)
            self.assertEqual([loop.past for loop in loops], schedules, str(tale.program))
            for loop in loops:
                self.assertEqual(loop.outcomes(), tale.outcomes())
            compared += 1
        self.assertGreater(compared, 100)

    def test_what_is_ready_in_great_programs(self):
        for seed, tale in enumerate(told_programs(PROGRAMS // 2)):
            net, loop, chance = Net.of(tale.program), Loop(tale.program), random.Random(seed)
            self.assertEqual((net.events, net.never), (tale.events, ()))
            while True:
                ready = [event_of(loop, name) for name in loop.ready]
                self.assertEqual(sorted(ready), ready_of(net, set(loop.past)), str(tale.program))
                if loop.is_over:
                    break
                name = chance.choice(loop.ready)
                self.assertEqual(loop(name), net.notes(loop.past[-1]))

    def test_all_cuts(self):
        """Behind two orders of the same events the same can come, and it is the same cut."""
        compared = 0
        for tale in told_programs(PROGRAMS // 10):
            net = Net.of(tale.program)
            cuts = cuts_of(net, MOST)
            loops = loops_behind(tale.program, MOST)
            if cuts is None or loops is None:
                continue
            firsts = {frozenset(loop.past[:many]) for loop in loops for many in range(len(net) + 1)}
            self.assertEqual(firsts, cuts)
            compared += 1
        self.assertGreater(compared, 50)


class AllOrders(unittest.TestCase):
    def same(self, short, number):
        """All schedules of a program have the same events, notes and outcomes; there are so many of them."""
        tale = told(short)
        loops = loops_behind(tale.program)
        found = [loop.past for loop in loops]
        self.assertEqual(len(set(found)), number)
        self.assertEqual(found, schedules_of(Net.of(tale.program)))
        for loop in loops:
            self.assertEqual(tuple(sorted(loop.past)), tale.events)
            self.assertEqual(loop.outcomes(), tale.outcomes())
            again = Loop(tale.program)
            for event in loop.past:
                self.assertEqual(again(event.rpartition(".")[0] or "end"), tale.notes(event))
        return found

    def test_one_job(self):
        self.same("job main; say a; pause; say b; end", 1)

    def test_two_jobs(self):
        # b.0 and b.1 are mixed with main.1 and main.2, behind main.0.
        self.same("job main; begin b; pause; say a; pause; end; job b; say b; pause; end", 6)

    def test_a_gate_opened_by_either_of_two(self):
        # The second turn of `main` is behind one of the two others at least.
        found = self.same("job main; begin b; begin c; wait g; say a; end; job b; open g; say b; end; "
                          "job c; open g; say c; end", 4)
        for events in found:
            self.assertGreater(events.index("main.1"), 1)

    def test_a_closer_beside_its_job(self):
        self.same("walk w; guard; give; late; say l; pause; say k; end; end; "
                  "job main; each w dropped 1; end; pause; end", 6)

    def test_two_that_wait_at_the_end(self):
        found = self.same("job main; begin b; guard; wait g; late; say l; end; end; job b; wait g; end", 2)
        self.assertEqual(sorted(found), [("main.0", "b.0", "end", "b.1", "main.1"),
                                         ("main.0", "b.0", "end", "main.1", "b.1")])

    def test_begun_by_either_of_two(self):
        self.same("job main; begin b; begin c; end; job b; begin d; end; job c; begin d; say c; end; job d; say d; end",
                  4)


class SecondPromise(unittest.TestCase):
    """`closed` against `dropped`."""

    def notes_by_job(self, tale):
        found = {}
        for name in tale.outcomes():
            turns = len([event for event in tale.events if event.rpartition(".")[0] == name])
            notes = [tale.notes(name + "." + str(at)) for at in range(turns)]
            found[name] = [note for some in notes for note in some]
        return found

    def both(self, short, at):
        closed = told(short)
        dropped = Tale(closed.program.turned(at, "dropped"))
        return closed, dropped

    def test_the_notes_go_to_the_closer(self):
        closed, dropped = self.both("walk w; give; guard; give; give; late; say l; pause; say k; end; end; "
                                    "job main; say a; each w closed 2; say i; pause; end; say z; end", 13)
        self.assertEqual(self.notes_by_job(closed), {"main": ["a", "i", "i", "l", "k", "z"]})
        self.assertEqual(self.notes_by_job(dropped), {"main": ["a", "i", "i", "z"], "main/1": ["l", "k"]})
        self.assertEqual(closed.outcomes()["main"], dropped.outcomes()["main"])

    def test_left_by_an_error(self):
        closed, dropped = self.both("walk w; guard; give; late; say l; end; end; "
                                    "job main; guard; each w closed; fail x; end; late; say k; end; end", 9)
        self.assertEqual(self.notes_by_job(closed), {"main": ["l", "k"]})
        self.assertEqual(self.notes_by_job(dropped), {"main": ["k"], "main/1": ["l"]})
        self.assertEqual(dropped.outcomes(), {"main": "failed x", "main/1": "ended"})

    def check_schedules(self, closed, dropped):
        """The schedules of the one are those of the other with each closer ahead of the job that dropped the walk.

        All closers are made by the row that is turned, so a closer's turns are turns of the job at its name's front.
        """
        closers = [name for name in dropped.outcomes() if "/" in name]
        found = []
        for loop in loops_behind(dropped.program):
            if all(self.is_ahead(dropped, loop.past, closer) for closer in closers):
                again = Loop(closed.program)
                for event in loop.past:
                    again(event.rpartition(".")[0].partition("/")[0] or "end")
                self.assertTrue(again.is_over)
                found.append(again.past)
        self.assertEqual(sorted(found), [loop.past for loop in loops_behind(closed.program)])
        return found

    def is_ahead(self, tale, past, closer):
        """Whether a closer has its last turn ahead of the next turn of the job that made it."""
        maker = [event for event in tale.events if closer in tale.drops(event)][0]
        job, _, at = maker.rpartition(".")
        last = max(place for place, event in enumerate(past) if event.rpartition(".")[0] == closer)
        return last < past.index(job + "." + str(int(at) + 1))

    def merged_notes(self, tale):
        """The notes of each job, with those of its closers where these are ahead of its next turn."""
        loop = Loop(tale.program)
        while loop.ready:
            loop(sorted(loop.ready, key=lambda name: -name.count("/"))[0])
        notes = {}
        for event in loop.past:
            notes.setdefault(event.rpartition(".")[0].partition("/")[0], []).extend(tale.notes(event))
        return notes

    def test_the_schedules(self):
        ending = "each w closed 1; say i; end; say z; end; "
        other = "job b; say b; open g; pause; open h; end"
        for short, at, number in (
                ("walk w; guard; give; late; say l; pause; say k; end; end; "
                 "job main; begin b; " + ending + other, 11, 10),
                ("walk w; guard; give; late; wait g; say k; end; end; job main; begin b; " + ending + other, 10, 7),
                ("walk w; guard; give; late; wait g; wait h; end; end; job main; begin b; " + ending + other, 10, 5),
                ("walk w; give; end; job main; begin b; repeat 2; each w closed 1; end; end; end; job b; end", 6, 5),
                ("walk w; guard; give; late; say l; end; end; "
                 "job main; begin b; guard; each w closed; fail x; end; mend; say m; end; end; job b; end", 10, 3)):
            closed, dropped = self.both(short, at)
            found = self.check_schedules(closed, dropped)
            self.assertEqual(len(found), number)
            self.assertGreater(len(loops_behind(dropped.program)), number)

    def test_programs_by_chance(self):
        compared = 0
        for tale in told_programs(PROGRAMS * 2):
            rows = str(tale.program).split("\n")
            each = [at for at, row in enumerate(rows) if row.startswith("each ")]
            if len(each) != 1 or " dropped" in rows[each[0]]:
                continue
            closed = Tale(tale.program.turned(each[0], "closed"))
            dropped = Tale(closed.program.turned(each[0], "dropped"))
            closers = [name for name in dropped.outcomes() if "/" in name]
            whole = all(whole for _, _, whole in closed.cleanups() + dropped.cleanups())
            if not closers or not whole or any(name in closers for name in dropped.stuck()):
                continue
            if loops_behind(dropped.program, MOST) is None:
                continue
            self.check_schedules(closed, dropped)
            self.assertEqual(self.merged_notes(dropped), self.merged_notes(closed))
            compared += 1
        self.assertGreater(compared, 10)
