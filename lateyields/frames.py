"""Where jobs and walks stand: the blocks that they are in, and the ways out of these.

A way out is a tuple of its kind and its name; a name that is None is none.
"""

ERROR = "error"
CLOSE = "close"
STOP = "stop"


class Frame:
    """A definition or a block whose rows are being carried out.

    `at` is the index of the next row in `rows`, `many` the number of the times round, or of the bodies, that are
    through. In a guard, `is_behind` tells whether the rows are those behind `late` or `mend`, `is_late` whether they
    are late rows, and `first` is the event in which these began. An `each` pulls `walk`, and is `is_closing` from
    where it is left early to where the closing is over. Late rows and closings interrupted the way out `way`; with
    `stops_job` the job is stopped where it has left them.
    """

    def __init__(self, step):
        self.step = step
        self.rows = step.body
        self.at = 0
        self.many = 0
        self.is_behind = False
        self.is_late = False
        self.first = ""
        self.walk = None
        self.is_closing = False
        self.way = None
        self.stops_job = False

    def begin_behind(self):
        """Goes from the guarded rows to the late or mending ones."""
        self.rows = self.step.behind
        self.at = 0
        self.is_behind = True


class Strand:
    """The rows of one job or of one walk, with all blocks that it is in, the definition first."""

    def __init__(self, step):
        self.frames = [Frame(step)]


def named(way, name):
    """The way out that goes on where an interruption ended with a name, or with None."""
    if name is None:
        return way
    if way is None:
        return (ERROR, name)
    return (way[0], name)


def stopped(way):
    """The stop that a way out, or none, becomes."""
    if way is None:
        return (STOP, None)
    return (STOP, way[1])


def outcome_of(way):
    """The outcome of a job that a way out left."""
    kind, name = way
    if kind == STOP:
        return "stopped" if name is None else f"stopped {name}"
    return "ended" if name is None else f"failed {name}"
