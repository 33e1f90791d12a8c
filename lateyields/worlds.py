"""All jobs of a program at one moment, and what the events that came did."""

from lateyields.errors import TooLong
from lateyields.frames import Strand
from lateyields.jobs import Job

END = "end"

_MOST_ROWS = 400


class Deed:
    """What one event did.

    It is the turn number `at` of `job`, or the end (then `job` is `end`). `is_behind` tells whether the end came ahead
    of it, `gate` is the one behind whose `wait` the turn ended. `said` are its notes, `opened` and `begun` the names
    behind `open` and `begin`, `made` the closers that it made.
    """

    def __init__(self, job, at, is_behind):
        self.event = END if job == END else f"{job}.{at}"
        self.job = job
        self.at = at
        self.is_behind = is_behind
        self.gate = None
        self.said = []
        self.opened = []
        self.begun = []
        self.made = []


class World:
    """The jobs, gates and events of a program that is carried out, event by event.

    `jobs` are those that began, by their names, `gates` those that are open, `waiting` the gates of the jobs that
    waited at the end. `deeds` are told by the events that came, in their order, and `deed` is that of the last one.
    `late_rows` are the tuples of `Tale.cleanups` as they came, `many` is the number of rows that were carried out.
    """

    def __init__(self, program):
        self.program = program
        self.jobs = {}
        self.gates = {}
        self.is_ended = False
        self.waiting = {}
        self.late_rows = []
        self.deeds = {}
        self.deed = None
        self.many = 0
        self.begin("main")

    def able_names(self):
        """The ascending list of what can come now: the names of jobs, or the end."""
        names = sorted(set([name for name in self.jobs if self._is_able(self.jobs[name])]))
        if names or self.is_ended:
            return names
        return [END]

    def _is_able(self, job):
        return job.outcome is None and self.gate_before(job) is None

    def gate_before(self, job):
        """The gate that is not open and keeps a job from its next turn, or None."""
        if self.is_ended or job.gate in self.gates:
            return None
        return job.gate

    def come(self, name):
        """Lets the next turn of a job come, or the end."""
        if name == END:
            self.end()
        else:
            self.turn(name)

    def come_all(self):
        """Lets the least of what can come do so, until nothing can."""
        able = self.able_names()
        while able:
            self.come(able[0])
            able = self.able_names()

    def again(self):
        """Another world of the program, in which the same events came in the same order."""
        world = World(self.program)
        for deed in list(self.deeds.values()):
            world.come(deed.job)
        return world

    def turn(self, name):
        """Lets the next turn of a job come."""
        job = self.jobs[name]
        deed = Deed(name, job.turns, self.is_ended)
        self._begin_event(deed)
        job.turn()
        deed.gate = job.gate

    def end(self):
        """Lets the end come."""
        self._begin_event(Deed(END, 0, False))
        self.is_ended = True
        for name in sorted(set(self.jobs)):
            job = self.jobs[name]
            if job.outcome is None:
                self.waiting[name] = job.gate
                job.face_end()
            else:
                job.hand_over_kept()

    def _begin_event(self, deed):
        self.deed = deed
        self.deeds[deed.event] = deed

    def begin(self, name):
        """Lets the first turn of a job come, if it was not begun before."""
        if name not in self.jobs:
            self.jobs[name] = Job(name, self, Strand(self.program.job_steps[name]), False)

    def open_gate(self, name):
        """Opens a gate for good."""
        self.deed.opened.append(name)
        self.gates[name] = True

    def hand_over(self, job, walk):
        """Makes the closer of a walk that a job leaves to the loop."""
        job.closers += 1
        name = f"{job.name}/{job.closers}"
        self.jobs[name] = Job(name, self, walk, True)
        self.deed.made.append(name)

    def walk_step(self, name):
        """The definition of a walk."""
        return self.program.walk_steps[name]

    def note_late_rows(self, first, whole):
        """Notes that late rows are left, which began in the event `first`."""
        self.late_rows.append((first, self.deed.event, whole))

    def count_row(self):
        """Counts a row that is come to."""
        if self.many == _MOST_ROWS:
            raise TooLong()
        self.many += 1


def world_behind(program):
    """The world in which a program has been carried out to its last event."""
    world = World(program)
    world.come_all()
    return world
