"""All jobs of a program at one moment, and what the events that came did."""

from lateyields.errors import TooLong
from lateyields.frames import Strand
from lateyields.jobs import Job

END = "end"

_MOST_ROWS = 400


class Deed:
    """What one event did: its notes, the names behind `open` and `begin`, the closers that it made."""

    def __init__(self, event):
        self.event = event
        self.said = []
        self.opened = []
        self.begun = []
        self.made = []


class World:
    """The jobs, gates and events of a program that is carried out, event by event.

    `jobs` are those that began, by their names, `gates` those that are open, `waiting` the gates of the jobs that
    waited at the end. `deeds` are told by the events that came, in their order, and `deed` is that of the last one.
    `late_rows` are the tuples of `Tale.cleanups` as they came, `many` is the number of rows that were carried out.
    """

    def __init__(self, program):
        self.program = program
        self.jobs = {}
        self.gates = {}
        self.is_ended = False
        self.waiting = {}
        self.late_rows = []
        self.deeds = {}
        self.deed = None
        self.many = 0
        self.begin("main")

    def able_jobs(self):
        """The ascending list of the jobs whose next turn can come."""
        return sorted([name for name in self.jobs if self._is_able(self.jobs[name])])

    def _is_able(self, job):
        if job.outcome is not None:
            return False
        return self.is_ended or job.gate is None or job.gate in self.gates

    def turn(self, name):
        """Lets the next turn of a job come."""
        job = self.jobs[name]
        self._begin_event(f"{name}.{job.turns}")
        job.turn()

    def end(self):
        """Lets the end come."""
        self._begin_event(END)
        self.is_ended = True
        for name in sorted(list(self.jobs)):
            job = self.jobs[name]
            if job.outcome is None:
                self.waiting[name] = job.gate
                job.face_end()
            else:
                job.hand_over_kept()

    def _begin_event(self, event):
        self.deed = Deed(event)
        self.deeds[event] = self.deed

    def begin(self, name):
        """Lets the first turn of a job come, if it was not begun before."""
        if name not in self.jobs:
            self.jobs[name] = Job(name, self, Strand(self.program.job_steps[name]), False)

    def open_gate(self, name):
        """Opens a gate for good."""
        self.deed.opened.append(name)
        self.gates[name] = True

    def hand_over(self, job, walk):
        """Makes the closer of a walk that a job leaves to the loop."""
        job.closers += 1
        name = f"{job.name}/{job.closers}"
        self.jobs[name] = Job(name, self, walk, True)
        self.deed.made.append(name)

    def walk_step(self, name):
        """The definition of a walk."""
        return self.program.walk_steps[name]

    def note_late_rows(self, first, whole):
        """Notes that late rows are left, which began in the event `first`."""
        self.late_rows.append((first, self.deed.event, whole))

    def count_row(self):
        """Counts a row that is come to."""
        if self.many == _MOST_ROWS:
            raise TooLong()
        self.many += 1


def world_behind(program):
    """The world in which a program has been carried out to its last event."""
    world = World(program)
    while True:
        able = world.able_jobs()
        if able:
            world.turn(able[0])
        elif world.is_ended:
            return world
        else:
            world.end()
