"""Points [19], [20], [28] and [40]: what the modules tell of the same programs, one against the other."""

import itertools
import math
import unittest

from all_orders import log_of, loops_behind
from all_orders import schedules_of as schedules_by_hand
from any_program import program_text
from helper import read
from lateyields.counts import ahead_of, cuts_of, index_of, places_of, schedule_at, schedules_of
from lateyields.cuts import Cut
from lateyields.errors import LateError
from lateyields.joins import behind, beside, renamed
from lateyields.logs import is_log, least_log, logs_of, parted
from lateyields.loops import Loop
from lateyields.nets import Net
from lateyields.orders import latest, order_of, paper_of
from lateyields.programs import Program
from lateyields.shelf import Shelf
from lateyields.swaps import distance, swaps
from lateyields.tales import Tale
from lateyields.ways import blockers, earliest, ways

MOST = 60


def told_programs(many=400):
    """Programs with a loop behind each of their schedules, ascending: more than one, but few."""
    found = []
    for seed in range(many):
        try:
            program = Program.read(program_text(seed))
            loops = loops_behind(program, MOST)
        except LateError:
            continue
        if loops is not None and len(loops) > 1:
            found.append((program, loops))
    return found


class Programs(unittest.TestCase):
    @classmethod
    def setUpClass(cls):
        cls.programs = told_programs()

    def test_there_are_many(self):
        self.assertGreater(len(self.programs), 20)

    def test_schedules_are_those_of_the_net(self):
        for program, loops in self.programs:
            net = Net.of(program)
            rows = [loop.past for loop in loops]
            self.assertEqual([schedule_at(net, number) for number in range(schedules_of(net))], rows)
            self.assertEqual([index_of(net, row) for row in rows], list(range(len(rows))))

    def test_each_schedule_tells_the_same(self):
        for program, loops in self.programs:
            tale = Tale(program)
            for loop in loops:
                self.assertEqual(tuple(sorted(loop.past)), tale.events)
                self.assertEqual(loop.outcomes(), tale.outcomes())
                again = Loop(program)
                names = [event.rpartition(".")[0] or "end" for event in loop.past]
                self.assertEqual(list(again.run(names)), [(event, tale.notes(event)) for event in loop.past])

    def test_orders_counts_and_places(self):
        for program, loops in self.programs:
            net = Net.of(program)
            rows = [loop.past for loop in loops]
            for one, other in itertools.permutations(net.events, 2):
                ahead = sum(row.index(one) < row.index(other) for row in rows)
                word = {0: "behind", len(rows): "ahead"}.get(ahead, "loose")
                self.assertEqual((order_of(net, one, other), ahead_of(net, one, other)), (word, ahead))
                self.assertTrue(paper_of(net, one, other).holds(net))
            for event in net.events:
                found = [row.index(event) for row in rows]
                self.assertEqual((earliest(net, event), latest(net, event)), (min(found), max(found)))
                self.assertEqual(places_of(net, event), [found.count(at) for at in range(len(rows[0]))])

    def test_logs(self):
        for program, loops in self.programs:
            net = Net.of(program)
            logs = sorted({log_of(net, loop.past) for loop in loops})
            self.assertEqual((logs_of(net), least_log(net)), (len(logs), logs[0]))
            self.assertTrue(all(is_log(net, log) for log in logs))
            self.assertIsNone(parted(net, Net.read(str(net))))

    def test_exchanges_lead_from_loop_to_loop(self):
        for program, loops in self.programs:
            net = Net.of(program)
            row = list(loops[0].past)
            for place in swaps(net, row, loops[-1].past):
                row[place:place + 2] = row[place:place + 2][::-1]
                loop = Loop(program)
                list(loop.run([event.rpartition(".")[0] or "end" for event in row]))
                self.assertTrue(loop.is_over)
            self.assertEqual(tuple(row), loops[-1].past)
            self.assertEqual(distance(net, loops[0].past, loops[0].past), 0)

    def test_behind_equal_cuts_the_same_can_come(self):
        for program, loops in self.programs:
            net = Net.of(program)
            found = {}
            for loop in loops:
                for many in range(len(loop.past) + 1):
                    events = tuple(sorted(loop.past[:many]))
                    found.setdefault(events, {}).setdefault(loop.past[:many], set()).add(loop.past[many:])
            self.assertEqual(len(found), cuts_of(net))
            for events, rows in found.items():
                behind_each = list(rows.values())
                self.assertTrue(all(one == behind_each[0] for one in behind_each))
                self.assertEqual(set(Cut(net, events).ready), {row[0] for row in behind_each[0] if row})

    def test_what_is_left_out(self):
        # Without a blocker an event cannot come, with all but one event of it, it can.
        for program, _ in self.programs:
            net = Net.of(program)
            for event in net.events:
                for one in blockers(net, event):
                    self.assertNotIn(event, Cut.without(net, one).events)
                    for left in one:
                        others = [entry for entry in one if entry != left]
                        self.assertIn(event, Cut.without(net, others).events)
                for row in ways(net, event):
                    self.assertEqual(Cut(net, row).events, row)

    def test_joined(self):
        for (one, first), (other, second) in zip(self.programs[::2], self.programs[1::2]):
            net, more = Net.of(one), renamed(Net.of(other), "z")
            many = len(first) * len(second)
            self.assertEqual(schedules_of(behind(net, more)), many)
            self.assertEqual(cuts_of(beside(net, more)), cuts_of(net) * cuts_of(more))
            self.assertEqual(schedules_of(beside(net, more)), many * math.comb(len(net) + len(more), len(net)))
            for event in net.events[:2]:
                self.assertEqual(ways(beside(more, net), event), ways(net, event))

    def test_on_a_shelf(self):
        shelf = Shelf()
        for program, loops in self.programs:
            net = Net.of(program)
            shelf["p"], shelf["t"], shelf["n"], shelf["s"] = program, str(program), net, str(net)
            self.assertTrue(all(shelf[name] == net for name in shelf.names))
            for name in shelf.names:
                self.assertEqual(shelf("count " + name), str(len(loops)))
                self.assertEqual(shelf("at " + name + " 1"), " ".join(loops[1].past))


class Dropped(unittest.TestCase):
    """Point [20], for each row of programs with several: `dropped` instead of `closed`."""

    def turns(self, tale, job):
        return [event for event in tale.events if event.rpartition(".")[0] == job]

    def merged(self, tale, job):
        """The turns of a job, behind each those of the closers that it made, and of the closers of these."""
        found = []
        for event in sorted(self.turns(tale, job), key=lambda event: int(event.rpartition(".")[2])):
            found.append(event)
            for closer in tale.drops(event):
                found += self.merged(tale, closer)
        return found

    def closers_are_ahead(self, tale, row):
        """Whether each closer has its last turn ahead of the next turn of the job that made it."""
        for event in tale.events:
            for closer in tale.drops(event):
                job, _, number = event.rpartition(".")
                later = job + "." + str(int(number) + 1)
                if max(row.index(turn) for turn in self.turns(tale, closer)) > row.index(later):
                    return False
        return True

    def check(self, closed, dropped, most=300):
        """Compares the schedules and the notes; returns whether there were few enough."""
        net, more = Net.of(closed.program), Net.of(dropped.program)
        rows = schedules_by_hand(more, most)
        if rows is None:
            return False
        named = {"end": "end"}
        for job in dropped.outcomes():
            if "/" not in job:
                turns = self.merged(dropped, job)
                named.update({event: job + "." + str(at) for at, event in enumerate(turns)})
                self.assertEqual([closed.notes(named[event]) for event in turns],
                                 [dropped.notes(event) for event in turns])
        found = [tuple(named[event] for event in row) for row in rows if self.closers_are_ahead(dropped, row)]
        self.assertEqual(sorted(found), schedules_by_hand(net))
        self.assertGreater(len(rows), len(found))
        return True

    def test_several_closers(self):
        late = "walk w; guard; give; late; say l; pause; say k; end; end; "
        other = "job b; say b; end"
        for short, at, many in (
                (late + "job main; begin b; repeat 2; each w closed 1; end; end; say z; end; " + other, 12, 2),
                (late + "walk v; guard; give; late; each w closed 1; end; say v; end; end; "
                 "job main; begin b; each v closed; fail x; end; end; " + other, 13, 1),
                (late + "walk v; guard; give; late; each w closed 1; end; say v; end; end; "
                 "job main; begin b; each v closed; fail x; end; end; " + other, 20, 1),
                (late + "job main; begin b; each w closed 1; each w closed 1; end; end; end; " + other, 12, 1)):
            program = read(short)
            dropped = Tale(program.turned(at, "dropped"))
            self.assertEqual(len([job for job in dropped.outcomes() if "/" in job]), many)
            self.assertTrue(self.check(Tale(program), dropped, 20000))

    def test_programs_by_chance(self):
        compared = several = 0
        for seed in range(500):
            try:
                program = Program.read(program_text(seed))
                each = [at for at, row in enumerate(str(program).split("\n")) if row.startswith("each ")]
                for at in each:
                    program = program.turned(at, "closed")
                tales = [Tale(program.turned(at, "dropped")) for at in each]
                closed = Tale(program)
            except LateError:
                continue
            for dropped in tales:
                closers = [job for job in dropped.outcomes() if "/" in job]
                whole = all(whole for _, _, whole in closed.cleanups() + dropped.cleanups())
                if closers and whole and not closed.stuck() and self.check(closed, dropped):
                    compared += 1
                    several += len(closers) > 1
        self.assertGreater(compared, 30)
        self.assertGreater(several, 2)


if __name__ == "__main__":
    unittest.main()
