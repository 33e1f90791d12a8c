"""Point [24]: the nets of programs."""

import unittest

from any_program import program_text
from helper import raised, read, text_of
from lateyields.errors import LateError, TooLong
from lateyields.nets import Net
from lateyields.programs import Program
from lateyields.tales import Tale


class Case(unittest.TestCase):
    def check(self, short, *rows):
        """The rows of the net of a program."""
        net = Net.of(read(short))
        self.assertEqual(str(net).split("\n"), list(rows))
        self.assertEqual(net.never, ())
        self.assertTrue(net == Net.read("\n".join(rows)))


class Turns(Case):
    def test_one_job(self):
        self.check("job main; end", "end < main.0", "main.0")

    def test_further_turns(self):
        self.check("job main; say a; pause; pause; say b; say a; end",
                   "end < main.0 main.1 main.2", "main.0 a", "main.1 < main.0", "main.2 b a < main.1")

    def test_notes(self):
        net = Net.of(read("job main; say b; say a; say b; end"))
        self.assertEqual((net.notes("main.0"), net.notes("end")), (("b", "a", "b"), ()))

    def test_events_and_notes_are_those_of_the_tale(self):
        compared = 0
        for seed in range(400):
            try:
                tale = Tale(Program.read(program_text(seed)))
            except LateError:
                continue
            net = Net.of(tale.program)
            self.assertEqual(net.events, tale.events)
            for event in net.events:
                self.assertEqual(net.notes(event), tale.notes(event))
            compared += 1
        self.assertGreater(compared, 200)


class Gates(Case):
    def test_a_wait(self):
        self.check("job main; begin b; wait g; say a; end; job b; pause; open g; end",
                   "b.0 < main.0", "b.1 < b.0", "end < b.0 b.1 main.0 main.1", "main.0", "main.1 a < b.1 main.0")

    def test_opened_by_several(self):
        self.check("job main; begin b; begin c; wait g; end; job b; open g; pause; open g; end; job c; open g; end",
                   "b.0 < main.0", "b.1 < b.0", "c.0 < main.0", "end < b.0 b.1 c.0 main.0 main.1", "main.0",
                   "main.1 < b.0|b.1|c.0 main.0")

    def test_opened_ahead_by_the_job_itself(self):
        self.check("job main; open g; wait g; wait g; pause; end", "end < main.0 main.1 main.2 main.3", "main.0",
                   "main.1 < main.0", "main.2 < main.0 main.1", "main.3 < main.2")

    def test_opened_by_the_job_itself_behind_the_wait_too(self):
        self.check("job main; begin b; wait g; open g; end; job b; open g; end", "b.0 < main.0",
                   "end < b.0 main.0 main.1", "main.0", "main.1 < b.0|main.1 main.0")

    def test_a_wait_with_which_the_job_is_over(self):
        self.check("job main; open g; wait g; end", "end < main.0 main.1", "main.0", "main.1 < main.0")

    def test_never_opened(self):
        self.check("job main; wait g; say a; end", "end < main.0", "main.0", "main.1 < end main.0")

    def test_opened_behind_the_end_only(self):
        self.check("job main; guard; wait g; late; open g; wait g; say l; end; end",
                   "end < main.0", "main.0", "main.1 < end main.0", "main.2 l < end main.1")

    def test_opened_ahead_of_the_end_and_behind_it(self):
        self.check("job main; begin b; wait g; guard; wait h; late; open g; wait g; end; end; job b; open g; end",
                   "b.0 < main.0", "end < b.0 main.0 main.1", "main.0", "main.1 < b.0 main.0", "main.2 < end main.1",
                   "main.3 < end main.2")

    def test_a_wait_behind_the_end_for_a_gate_that_was_open(self):
        self.check("job main; open g; guard; wait h; late; wait g; end; end", "end < main.0", "main.0",
                   "main.1 < end main.0", "main.2 < end main.1")

    def test_waits_and_opens_in_walks(self):
        self.check("walk w; wait g; give; open h; end; job main; begin b; each w closed; say i; end; end; "
                   "job b; open g; wait h; end", "b.0 < main.0", "b.1 < b.0 main.1",
                   "end < b.0 b.1 main.0 main.1", "main.0", "main.1 i < b.0 main.0")

    def test_a_turn_that_ends_otherwise_behind_a_wait(self):
        self.check("walk w; give; end; job main; open g; wait g; each w closed 1; end; pause; end",
                   "end < main.0 main.1 main.2 main.3 main.4", "main.0", "main.1 < main.0", "main.2 < main.1",
                   "main.3 < main.2", "main.4 < main.3")


class Begins(Case):
    def test_once(self):
        self.check("job main; pause; begin b; end; job b; say b; end", "b.0 b < main.1", "end < b.0 main.0 main.1",
                   "main.0", "main.1 < main.0")

    def test_twice(self):
        self.check("job main; begin b; begin b; begin c; pause; begin b; end; job b; end; job c; begin b; end",
                   "b.0 < c.0|main.0|main.1", "c.0 < main.0", "end < b.0 c.0 main.0 main.1", "main.0",
                   "main.1 < main.0")

    def test_by_itself(self):
        self.check("job main; begin b; end; job b; begin b; pause; begin b; end",
                   "b.0 < b.0|b.1|main.0", "b.1 < b.0", "end < b.0 b.1 main.0", "main.0")

    def test_by_one_another(self):
        self.check("job main; begin b; begin main; end; job b; begin main; begin c; end; job c; begin b; end",
                   "b.0 < c.0|main.0", "c.0 < b.0", "end < b.0 c.0 main.0", "main.0")

    def test_behind_the_end(self):
        self.check("job main; guard; wait g; late; begin b; begin c; end; end; "
                   "job b; begin c; begin b; end; job c; end",
                   "b.0 < b.0|main.1 end", "c.0 < b.0|main.1 end", "end < main.0", "main.0", "main.1 < end main.0")

    def test_ahead_of_the_end_and_behind_it(self):
        self.check("job main; begin b; guard; wait g; late; begin b; begin c; end; end; job b; end; job c; end",
                   "b.0 < main.0", "c.0 < end main.1", "end < b.0 main.0", "main.0", "main.1 < end main.0")

    def test_never(self):
        self.check("job main; end; job b; say b; begin b; end", "end < main.0", "main.0")

    def test_by_a_closer(self):
        self.check("walk w; guard; give; late; begin b; end; end; job main; each w dropped 1; end; end; job b; end",
                   "b.0 < main/1.0", "end < b.0 main.0 main.1 main/1.0", "main.0", "main.1 < main.0",
                   "main/1.0 < main.0")


class Closers(Case):
    def test_ahead_of_the_end(self):
        self.check("walk w; guard; give; late; pause; say l; end; end; job main; pause; each w dropped 1; end; end",
                   "end < main.0 main.1 main.2 main/1.0 main/1.1", "main.0", "main.1 < main.0", "main.2 < main.1",
                   "main/1.0 < main.1", "main/1.1 l < main/1.0")

    def test_that_waits(self):
        self.check("walk w; guard; give; late; wait g; say l; wait h; end; end; "
                   "job main; each w dropped 1; end; open g; end",
                   "end < main.0 main.1 main/1.0 main/1.1", "main.0", "main.1 < main.0",
                   "main/1.0 < main.0", "main/1.1 l < main.1 main/1.0", "main/1.2 < end main/1.1")

    def test_closers_of_closers(self):
        self.check("walk w; guard; give; late; say l; end; end; "
                   "walk v; guard; give; late; each w dropped 1; end; say k; end; end; "
                   "job main; each v dropped 1; end; end",
                   "end < main.0 main.1 main/1.0 main/1.1 main/1/1.0", "main.0", "main.1 < main.0",
                   "main/1.0 < main.0", "main/1.1 k < main/1.0", "main/1/1.0 l < main/1.0")

    def test_behind_the_end(self):
        self.check("walk w; guard; give; late; say l; end; end; "
                   "job main; guard; wait g; late; each w dropped 1; end; end; end",
                   "end < main.0", "main.0", "main.1 < end main.0", "main.2 < end main.1", "main/1.0 l < end main.1")

    def test_closed_walks_have_none(self):
        self.check("walk w; guard; give; late; say l; pause; end; end; job main; each w closed 1; end; end",
                   "end < main.0 main.1 main.2 main.3", "main.0", "main.1 l < main.0", "main.2 < main.1",
                   "main.3 < main.2")


class KeptWalks(Case):
    def test_handed_over_with_the_end(self):
        self.check("walk w; guard; give; late; say l; end; end; walk v; give; end; "
                   "job main; each w kept 1; end; each v kept 1; end; end",
                   "end < main.0 main.1 main.2", "main.0", "main.1 < main.0", "main.2 < main.1", "main/1.0 < end",
                   "main/2.0 l < end")

    def test_handed_over_with_the_last_turn(self):
        self.check("walk w; guard; give; late; say l; end; end; job main; each w kept 1; end; wait g; end",
                   "end < main.0 main.1", "main.0", "main.1 < main.0", "main.2 < end main.1",
                   "main/1.0 l < end main.2")

    def test_pulled_again(self):
        self.check("walk w; give; give; end; job main; each w kept 1; end; each w kept; say i; end; end",
                   "end < main.0 main.1", "main.0", "main.1 i < main.0")


class Of(Case):
    def test_too_long(self):
        raised(TooLong, Net.of, read("job main; repeat 9; repeat 9; repeat 9; say a; end; end; end; end"))
        # Carries out 1 + 9 + 81 + 243 rows.
        short = "job main; repeat 9; repeat 9; repeat 3; say a; end; end; end; "
        self.assertEqual(len(Net.of(read(short + "say b; " * 66 + "end")).notes("main.0")), 309)
        raised(TooLong, Net.of, read(short + "say b; " * 67 + "end"))

    def test_by_name_and_again(self):
        program = read("job main; begin b; wait g; end; job b; open g; end")
        self.assertTrue(Net.of(program=program) == Net.of(program))
        self.assertEqual(str(program), text_of("job main; begin b; wait g; end; job b; open g; end"))

    def test_the_event_end(self):
        net = Net.of(read("job main; begin b; end; job b; wait g; end"))
        self.assertEqual(net.needs("end"), (("b.0",), ("main.0",)))
        self.assertEqual(net.needs("b.1"), (("b.0",), ("end",)))
