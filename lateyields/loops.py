"""Loops: programs that are carried out by hand, turn by turn."""

from lateyields.cuts import Cut
from lateyields.errors import NotReady
from lateyields.nets import net_of
from lateyields.worlds import World


class Loop:
    """A program that is carried out turn by turn, in the order that the caller tells."""

    def __init__(self, program):
        self.program = program
        # Not only for `cut`: this also tells at once whether too many rows are carried out.
        self.net = net_of(program)
        self.world = World(program)

    @property
    def ready(self):
        """The ascending tuple of the jobs whose next turn can come, or `("end",)`, or `()`."""
        return tuple(self.world.able_names())

    @property
    def past(self):
        """The tuple of the events that came, in their order."""
        return tuple(self.world.deeds)

    @property
    def is_over(self):
        """Whether nothing can come any more."""
        return len(self.world.able_names()) == 0

    def __call__(self, job):
        self._let_come(job)
        return tuple(self.world.deed.said)

    def __iadd__(self, other):
        self._let_come(other)
        return self

    def run(self, jobs):
        """Yields each event with its notes, and lets it come only when it is asked for."""
        for job in list(jobs):
            self._let_come(job)
            yield (self.world.deed.event, tuple(self.world.deed.said))

    def finish(self):
        """Lets the least of what can come do so until nothing can, and returns the list of the events."""
        many = len(self.world.deeds)
        self.world.come_all()
        return list(self.world.deeds)[many:]

    def cut(self):
        """The cut of the events that came, in the net of the program."""
        return Cut(self.net, self.past)

    def places(self):
        """The gate behind whose `wait` each job stands that is not over, or `pause`."""
        return {job.name: self.world.gate_before(job) or "pause" for job in self._jobs() if job.outcome is None}

    def outcomes(self):
        """The outcome of each job that is over."""
        return {job.name: job.outcome for job in self._jobs() if job.outcome is not None}

    def copied(self):
        """An independent loop in the same state."""
        other = Loop(self.program)
        other.world = self.world.again()
        return other

    def tried(self, work):
        """Returns what `work` returns for this loop, and puts the loop back to where it was."""
        kept = self.world
        self.world = kept.again()
        try:
            return work(self)
        finally:
            self.world = kept

    def _jobs(self):
        """All jobs that began, in the order of their names."""
        return [self.world.jobs[name] for name in sorted(set(self.world.jobs))]

    def _let_come(self, name):
        if not isinstance(name, str) or name not in self.world.able_names():
            raise NotReady(name)
        self.world.come(name)
