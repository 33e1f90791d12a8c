"""Jobs, and what they do in a turn."""

from lateyields.frames import CLOSE, ERROR, STOP, Frame, Strand, named, outcome_of, stopped


class Job:
    """A job that has begun. A closer is a job, too: one that has only a walk to close.

    `strands` are its own rows, the walk that these pull or close, the walk that this one does, and so on. `way` is
    the way out that is leaving rows now, `gate` the one behind whose `wait` it stands, `kept` the walks that it keeps
    by their names; `turns` and `closers` count.
    """

    def __init__(self, name, world, strand, is_closer):
        self.name = name
        self.world = world
        self.strands = [strand]
        self.is_closer = is_closer
        self.way = (CLOSE, None) if is_closer else None
        self.kept = {}
        self.turns = 0
        self.closers = 0
        self.gate = None
        self.outcome = None
        self.in_turn = False

    def turn(self):
        """Carries out rows up to the end of the turn."""
        self.gate = None
        self.in_turn = True
        frame = self.top()
        # Once a closing has begun, the frames of the walk are on top of this one.
        if frame.is_closing:
            self.strands.append(frame.walk)
            self.way = (CLOSE, None)
        while self.in_turn:
            if self.way is None:
                self.go_on()
            else:
                self.go_out()
        self.turns += 1

    def top(self):
        """The innermost block that is being carried out."""
        return self.strands[-1].frames[-1]

    def enter(self, frame):
        """Goes into a block."""
        self.strands[-1].frames.append(frame)

    def leave(self):
        """Goes out of the innermost block, with nothing more to do there."""
        self.strands[-1].frames.pop()

    def go_on(self):
        """Carries out the next row, or leaves the rows that are through."""
        frame = self.top()
        if frame.at == len(frame.rows):
            self.leave_through(frame)
            return
        step = frame.rows[frame.at]
        frame.at += 1
        self.world.count_row()
        action = _ACTIONS[step.word]
        action(self, step)

    def leave_through(self, frame):
        """Goes on where all rows of a block or definition are through."""
        word = frame.step.word
        if word == "repeat":
            self.repeat_through(frame)
        elif word == "each":
            self.body_through(frame)
        elif word == "guard":
            self.guard_through(frame)
        else:
            self.definition_through()

    def repeat_through(self, frame):
        """Goes round again, or goes on behind the repeat."""
        frame.many += 1
        if frame.many < frame.step.many:
            frame.at = 0
        else:
            self.leave()

    def body_through(self, frame):
        """Leaves an `each` behind its last body, or pulls its walk again."""
        frame.many += 1
        if frame.many == frame.step.many:
            self.leave_early(frame)
        else:
            self.strands.append(frame.walk)

    def guard_through(self, frame):
        """Goes on where rows of a guard are through."""
        if frame.is_late:
            self.leave_late(frame, None)
        elif frame.step.mark == "late" and not frame.is_behind:
            self.begin_late(frame)
        else:
            self.leave()

    def definition_through(self):
        """Ends the job, or goes on behind the `each` whose walk is through."""
        self.strands.pop()
        if self.strands:
            self.leave()
        else:
            self.be_over("ended")

    def go_out(self):
        """Lets the way out leave the innermost block or definition."""
        frame = self.top()
        word = frame.step.word
        if word == "repeat":
            self.leave()
        elif word == "each":
            self.leave_early(frame)
        elif word == "guard":
            self.leave_guard(frame)
        else:
            self.leave_definition()

    def leave_guard(self, frame):
        """Lets the way out leave the rows of a guard."""
        if frame.is_late:
            self.leave_late(frame, self.way[1])
        elif frame.is_behind:
            self.leave()
        elif frame.step.mark == "late":
            self.begin_late(frame)
        elif self.way[0] == ERROR:
            frame.begin_behind()
            self.way = None
        else:
            self.leave()

    def begin_late(self, frame):
        """Begins late rows, which interrupt the way out if there is one."""
        frame.begin_behind()
        frame.is_late = True
        frame.first = self.world.deed.event
        frame.way = self.way
        self.way = None

    def leave_late(self, frame, name):
        """Leaves late rows: by the error with this name, or through (None)."""
        self.world.note_late_rows(frame.first, name is None)
        self.leave()
        self.go_behind(frame, name)

    def go_behind(self, frame, name):
        """Goes on behind late rows or a closing that ended with a name, or with None."""
        self.way = named(frame.way, name)
        if frame.stops_job:
            self.way = stopped(self.way)

    def leave_definition(self):
        """Lets the way out leave the rows of the job or of a walk."""
        kind, name = self.way
        self.strands.pop()
        if not self.strands:
            self.be_over(outcome_of(self.way))
            return
        # An error or a stop comes out of the `each`, a close is over with its walk.
        frame = self.top()
        self.leave()
        if kind == CLOSE:
            self.go_behind(frame, name)
            self.in_turn = False

    def leave_early(self, frame):
        """Leaves an `each` whose walk stands at a `give`, by the way out if there is one."""
        self.in_turn = False
        how = frame.step.how
        if how == "closed":
            frame.is_closing = True
            frame.way = self.way
            self.way = None
            return
        self.leave()
        if how == "dropped":
            self.world.hand_over(self, frame.walk)
        else:
            self.kept[frame.step.name] = frame.walk

    def be_over(self, outcome):
        """Ends the job, and with it the turn."""
        self.outcome = outcome
        self.in_turn = False
        if self.world.is_ended:
            self.hand_over_kept()

    def hand_over_kept(self):
        """Hands the kept walks to the loop: the end has come, and the job is over."""
        for name in sorted(set(self.kept)):
            self.world.hand_over(self, self.kept[name])

    def face_end(self):
        """Prepares how the job is stopped, at its `wait` or behind its cleaning up."""
        if self.is_closer:
            return
        for strand in self.strands:
            for frame in strand.frames:
                if frame.is_late or frame.is_closing:
                    frame.stops_job = True
                    return
        self.way = (STOP, None)


def _say(job, step):
    job.world.deed.said.append(step.name)


def _pause(job, step):
    job.in_turn = False


def _wait(job, step):
    job.gate = step.name
    job.in_turn = False


def _open_gate(job, step):
    job.world.open_gate(step.name)


def _begin(job, step):
    job.world.deed.begun.append(step.name)
    job.world.begin(step.name)


def _fail(job, step):
    job.way = (ERROR, step.name)


def _give(job, step):
    # The walk is not carried out until it is pulled again; the `each` below begins its body.
    job.strands.pop()
    frame = job.top()
    frame.at = 0


def _enter(job, step):
    job.enter(Frame(step))


def _each(job, step):
    frame = Frame(step)
    if step.how == "kept" and step.name in job.kept:
        frame.walk = job.kept.pop(step.name)
    else:
        frame.walk = Strand(job.world.walk_step(step.name))
    job.enter(frame)
    job.strands.append(frame.walk)


_ACTIONS = {
    "say": _say,
    "pause": _pause,
    "wait": _wait,
    "open": _open_gate,
    "begin": _begin,
    "fail": _fail,
    "give": _give,
    "repeat": _enter,
    "guard": _enter,
    "each": _each,
}
