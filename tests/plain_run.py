"""A second way to carry out programs, for comparison: with Python's own generators and exceptions.

It shares nothing with the package, takes its turns in any order that it is told, and expects right programs.
"""

FIGURES = "123456789"


class Out(Exception):
    """A way out."""

    def __init__(self, kind, name=None):
        Exception.__init__(self, kind, name)
        self.kind = kind
        self.name = name


class Long(Exception):
    """More than 400 rows."""


class Mark:
    """Late rows or a closing that a job is in."""

    stops = False


class Walk:
    def __init__(self, rows):
        self.rows = rows


class Job:
    def __init__(self, name, rows, closer):
        self.name = name
        self.rows = rows
        self.closer = closer
        self.marks = []
        self.kept = {}
        self.closers = 0
        self.turns = 0
        self.gate = None
        self.stops = False
        self.outcome = None


def parsed(rows):
    """Nested lists of the rows up to the `end` that closes this block (which is taken, too)."""
    block, parts = [], [[]]
    while rows:
        row = rows.pop(0).split(" ")
        if row[0] == "end":
            return parts
        if row[0] in ("late", "mend"):
            parts.append(row[0])
            parts.append([])
            continue
        block = parts[-1]
        inner = parsed(rows) if row[0] in ("repeat", "guard", "each") else None
        block.append((row, inner))
    return parts


class PlainRun:
    def __init__(self, text, choose):
        rows = text.split("\n")
        self.definitions = {}
        while rows:
            head = rows.pop(0).split(" ")
            self.definitions[tuple(head)] = parsed(rows)[0]
        self.choose = choose
        self.jobs, self.gates = {}, set()
        self.rows, self.ended, self.job, self.event = 0, False, None, None
        self.events, self.notes, self.opens, self.begins, self.drops = [], {}, {}, {}, {}
        self.stuck, self.cleanups = {}, []
        self.begin("main")
        self.run()
        self.outcomes = {name: job.outcome for name, job in self.jobs.items()}

    def begin(self, name):
        if name not in self.jobs:
            job = self.jobs[name] = Job(name, None, False)
            job.rows = self.job_rows(job, self.definitions["job", name])

    def job_rows(self, job, block):
        try:
            yield from self.block(block)
            job.outcome = "ended"
        except Out as out:
            word = {"error": "failed", "stop": "stopped"}[out.kind]
            job.outcome = word if out.name is None else word + " " + out.name

    def closer_rows(self, job, walk):
        out = yield from self.closing(walk)
        job.outcome = "ended" if out.name is None else "failed " + out.name

    def hand_over(self, job, walk):
        job.closers += 1
        name = job.name + "/" + str(job.closers)
        closer = self.jobs[name] = Job(name, None, True)
        closer.rows = self.closer_rows(closer, walk)
        self.drops[self.event].append(name)

    def hand_over_kept(self, job):
        for name in sorted(job.kept):
            self.hand_over(job, job.kept[name])
        job.kept = {}

    def ready(self):
        return sorted(name for name, job in self.jobs.items() if job.outcome is None
                      and (self.ended or job.gate is None or job.gate in self.gates))

    def run(self):
        while True:
            ready = self.ready()
            if not ready and self.ended:
                return
            self.come(self.choose(ready) if ready else "end")

    def come(self, name):
        self.event = "end" if name == "end" else name + "." + str(self.jobs[name].turns)
        self.events.append(self.event)
        for told in (self.notes, self.opens, self.begins, self.drops):
            told[self.event] = []
        if name == "end":
            self.end()
            return
        job = self.job = self.jobs[name]
        job.turns += 1
        try:
            if job.stops:
                job.stops = False
                job.gate = job.rows.throw(Out("stop"))
            else:
                job.gate = next(job.rows)
        except StopIteration:
            if self.ended:
                self.hand_over_kept(job)

    def end(self):
        self.ended = True
        for name, job in list(self.jobs.items()):
            if job.outcome is not None:
                self.hand_over_kept(job)
                continue
            self.stuck[name] = job.gate
            if job.closer:
                continue
            if job.marks:
                job.marks[0].stops = True
            else:
                job.stops = True

    def block(self, block):
        for row, inner in block:
            self.rows += 1
            if self.rows > 400:
                raise Long()
            yield from getattr(self, "do_" + row[0])(row, inner)

    def do_say(self, row, inner):
        self.notes[self.event].append(row[1])
        yield from ()

    def do_pause(self, row, inner):
        yield None

    def do_wait(self, row, inner):
        yield row[1]

    def do_open(self, row, inner):
        self.opens[self.event].append(row[1])
        self.gates.add(row[1])
        yield from ()

    def do_begin(self, row, inner):
        self.begins[self.event].append(row[1])
        self.begin(row[1])
        yield from ()

    def do_fail(self, row, inner):
        raise Out("error", row[1])
        yield

    def do_give(self, row, inner):
        yield "give it"

    def do_repeat(self, row, inner):
        for _ in range(int(row[1])):
            yield from self.block(inner[0])

    def do_guard(self, row, inner):
        out = None
        try:
            yield from self.block(inner[0])
        except Out as caught:
            out = caught
        if inner[1] == "mend":
            if out is not None and out.kind != "error":
                raise out
            if out is not None:
                yield from self.block(inner[2])
            return
        yield from self.late(inner[2], out)

    def late(self, block, out):
        mark, job, first, name = Mark(), self.job, self.event, None
        job.marks.append(mark)
        try:
            yield from self.block(block)
        except Out as caught:
            assert caught.kind == "error"
            name = caught.name
        assert job == self.job and job.marks.pop() == mark
        self.cleanups.append((first, self.event, name is None))
        self.go_on(mark, out, name)

    def go_on(self, mark, out, name):
        if name is not None:
            out = Out("error" if out is None else out.kind, name)
        if mark.stops:
            out = Out("stop", None if out is None else out.name)
        if out is not None:
            raise out

    def pulled(self, walk, out=None):
        """Carries out a walk up to its next `give`; tells whether it came to one."""
        while True:
            try:
                got = next(walk.rows) if out is None else walk.rows.throw(out)
            except StopIteration:
                return False
            if got == "give it":
                return True
            out = None
            try:
                yield got
            except Out as caught:
                out = caught

    def closing(self, walk):
        try:
            yield from self.pulled(walk, Out("close"))
        except Out as out:
            assert out.kind == "close"
            return out
        raise AssertionError("a close ended")

    def do_each(self, row, inner):
        job, how = self.job, row[2]
        most = int(row[3]) if len(row) > 3 else 0
        if how == "kept" and row[1] in job.kept:
            walk = job.kept.pop(row[1])
        else:
            walk = Walk(self.block(self.definitions["walk", row[1]]))
        many = 0
        while (yield from self.pulled(walk)):
            many += 1
            out = None
            try:
                yield from self.block(inner[0])
            except Out as caught:
                out = caught
            if out is not None or many == most:
                yield from self.early(row[1], how, walk, out)
                return

    def early(self, name, how, walk, out):
        job, mark, close = self.job, Mark(), Out("close")
        if how == "kept":
            job.kept[name] = walk
        if how == "dropped":
            self.hand_over(job, walk)
        yield None
        if how == "closed":
            job = self.job
            job.marks.append(mark)
            close = yield from self.closing(walk)
            assert job == self.job and job.marks.pop() == mark
            yield None
        self.go_on(mark, out, close.name)
