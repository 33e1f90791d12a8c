"""Tales: what a program does, in whatever order its turns come."""

from lateyields.errors import Unknown
from lateyields.worlds import world_behind


class Tale:
    """What a program does. It never changes."""

    def __init__(self, program):
        # All orders have the same events, which do the same; so one of them tells it all.
        world = world_behind(program)
        self.program = program
        self.events = tuple(sorted(set(world.deeds)))
        self.world = world

    def notes(self, event):
        """The tuple of the notes that an event makes."""
        return tuple(self._deed(event).said)

    def opens(self, event):
        """The ascending tuple of the names behind `open` that an event carries out."""
        return tuple(sorted(set(self._deed(event).opened)))

    def begins(self, event):
        """The ascending tuple of the names behind `begin` that an event carries out."""
        return tuple(sorted(set(self._deed(event).begun)))

    def drops(self, event):
        """The ascending tuple of the closers that an event makes."""
        return tuple(sorted(set(self._deed(event).made)))

    def outcomes(self):
        """The outcome of each job that began."""
        return {name: self.world.jobs[name].outcome for name in sorted(set(self.world.jobs))}

    def stuck(self):
        """The gate of each job that waited at the end."""
        return dict(self.world.waiting)

    def cleanups(self):
        """The ascending list of the late rows: first event, last event, and whether they were through."""
        rows = self.world.late_rows
        return [row for row in sorted(set(rows)) for _ in range(rows.count(row))]

    def _deed(self, event):
        """What an event did. Callers pass any value, also one that cannot be a key."""
        if not isinstance(event, str) or event not in self.world.deeds:
            raise Unknown(event)
        return self.world.deeds[event]
