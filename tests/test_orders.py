"""Points [18], [19] and [20]: whatever order the turns come in, and walks dropped instead of closed."""

import random
import unittest

from any_program import program_text
from helper import told
from lateyields.errors import TooLong, TooMany
from lateyields.programs import Program
from lateyields.tales import Tale
from lateyields.worlds import World
from plain_run import Long, PlainRun

PROGRAMS = 1500
ORDERS = 3


def tale_of(text):
    """The tale, `"long"`, or None where the text has too many rows."""
    try:
        return Tale(Program.read(text))
    except TooLong:
        return "long"
    except TooMany:
        return None


def plain_run(text, choose):
    try:
        return PlainRun(text, choose)
    except Long:
        return "long"


def schedules(program):
    """All schedules, each with its world."""
    found, begun = [], [()]
    while begun:
        past = begun.pop()
        world = World(program)
        for name in past:
            come(world, name)
        ready = world.able_jobs() or ([] if world.is_ended else ["end"])
        begun += [past + (name,) for name in ready]
        if not ready:
            found.append((tuple(world.deeds), world))
    return found


def come(world, name):
    if name == "end":
        world.end()
    else:
        world.turn(name)


class ByTheOtherWay(unittest.TestCase):
    """Tales against a second implementation, which takes the turns in any order."""

    def compare(self, tale, run):
        self.assertEqual(tale.events, tuple(sorted(run.events)))
        for event in tale.events:
            self.assertEqual(tale.notes(event), tuple(run.notes[event]))
            for tell, told_there in ((tale.opens, run.opens), (tale.begins, run.begins), (tale.drops, run.drops)):
                self.assertEqual(tell(event), tuple(sorted(set(told_there[event]))))
        self.assertEqual(tale.outcomes(), run.outcomes)
        self.assertEqual(tale.stuck(), run.stuck)
        self.assertEqual(tale.cleanups(), sorted(run.cleanups))

    def test_programs_by_chance(self):
        compared = 0
        for seed in range(PROGRAMS):
            text = program_text(seed)
            tale = tale_of(text)
            if tale is None:
                continue
            for order in range(ORDERS):
                run = plain_run(text, random.Random(seed * ORDERS + order).choice)
                with self.subTest(text=text, order=order):
                    if "long" in (tale, run):
                        self.assertEqual(tale, run)
                    else:
                        self.compare(tale, run)
                        compared += 1
        self.assertGreaterEqual(compared, PROGRAMS)


class AllOrders(unittest.TestCase):
    def same(self, short, number):
        """All schedules of a program have the same events, notes and outcomes; there are so many of them."""
        tale = told(short)
        found = schedules(tale.program)
        self.assertEqual(len(set([events for events, _ in found])), number)
        for events, world in found:
            self.assertEqual(tuple(sorted(events)), tale.events)
            for event in events:
                self.assertEqual(tuple(world.deeds[event].said), tale.notes(event))
            self.assertEqual({name: world.jobs[name].outcome for name in world.jobs}, tale.outcomes())
            self.assertEqual(sorted(world.late_rows), tale.cleanups())
        return [events for events, _ in found]

    def test_one_job(self):
        self.same("job main; say a; pause; say b; end", 1)

    def test_two_jobs(self):
        # b.0 and b.1 are mixed with main.1 and main.2, behind main.0.
        self.same("job main; begin b; pause; say a; pause; end; job b; say b; pause; end", 6)

    def test_a_gate_opened_by_either_of_two(self):
        # The second turn of `main` is behind one of the two others at least.
        found = self.same("job main; begin b; begin c; wait g; say a; end; job b; open g; say b; end; "
                          "job c; open g; say c; end", 4)
        for events in found:
            self.assertGreater(events.index("main.1"), 1)

    def test_a_closer_beside_its_job(self):
        self.same("walk w; guard; give; late; say l; pause; say k; end; end; "
                  "job main; each w dropped 1; end; pause; end", 6)

    def test_two_that_wait_at_the_end(self):
        found = self.same("job main; begin b; guard; wait g; late; say l; end; end; job b; wait g; end", 2)
        self.assertEqual(sorted(found), [("main.0", "b.0", "end", "b.1", "main.1"),
                                         ("main.0", "b.0", "end", "main.1", "b.1")])

    def test_begun_by_either_of_two(self):
        self.same("job main; begin b; begin c; end; job b; begin d; end; job c; begin d; say c; end; job d; say d; end",
                  4)


class SecondPromise(unittest.TestCase):
    """`closed` against `dropped`."""

    def notes_by_job(self, tale):
        found = {}
        for name in tale.outcomes():
            turns = len([event for event in tale.events if event.rpartition(".")[0] == name])
            notes = [tale.notes(name + "." + str(at)) for at in range(turns)]
            found[name] = [note for some in notes for note in some]
        return found

    def both(self, short, at):
        closed = told(short)
        dropped = Tale(closed.program.turned(at, "dropped"))
        return closed, dropped

    def test_the_notes_go_to_the_closer(self):
        closed, dropped = self.both("walk w; give; guard; give; give; late; say l; pause; say k; end; end; "
                                    "job main; say a; each w closed 2; say i; pause; end; say z; end", 13)
        self.assertEqual(self.notes_by_job(closed), {"main": ["a", "i", "i", "l", "k", "z"]})
        self.assertEqual(self.notes_by_job(dropped), {"main": ["a", "i", "i", "z"], "main/1": ["l", "k"]})
        self.assertEqual(closed.outcomes()["main"], dropped.outcomes()["main"])

    def test_left_by_an_error(self):
        closed, dropped = self.both("walk w; guard; give; late; say l; end; end; "
                                    "job main; guard; each w closed; fail x; end; late; say k; end; end", 9)
        self.assertEqual(self.notes_by_job(closed), {"main": ["l", "k"]})
        self.assertEqual(self.notes_by_job(dropped), {"main": ["k"], "main/1": ["l"]})
        self.assertEqual(dropped.outcomes(), {"main": "failed x", "main/1": "ended"})

    def test_the_schedules(self):
        short = ("walk w; guard; give; late; say l; pause; say k; end; end; "
                 "job main; begin b; each w closed 1; say i; end; say z; end; job b; say b; open g; end")
        closed, dropped = self.both(short, 11)
        names = {"main.0": "main.0", "main.1": "main/1.0", "main.2": "main/1.1", "main.3": "main.1"}
        first = [tuple([names.get(event, event) for event in events]) for events, _ in schedules(closed.program)]
        second = [events for events, _ in schedules(dropped.program)
                  if events.index("main/1.1") < events.index("main.1")]
        self.assertEqual(sorted(first), sorted(second))
        self.assertGreater(len(schedules(dropped.program)), len(second))
