"""Nets: events, what each of them needs, and the notes that it makes."""

from lateyields.causes import needs_of
from lateyields.checks import check_named
from lateyields.errors import Unknown
from lateyields.net_rows import read_net_rows, row_of
from lateyields.worlds import world_behind


class Net:
    """Events with their needs and notes. It never changes.

    `rows` are those of its text. For each event `uses` has the needs in which it is: the event that has the need, and
    the index of the need there.
    """

    def __init__(self, needs, notes=None):
        said = {} if notes is None else notes
        check_named([one for event in needs for need in needs[event] for one in need] + list(said), needs)
        self.events = tuple(sorted(set(needs)))
        self._needs = {event: _ascending(needs[event]) for event in self.events}
        self._notes = {event: tuple(said.get(event, ())) for event in self.events}
        self.rows = tuple([row_of(event, self._notes[event], self._needs[event]) for event in self.events])
        self.uses = _uses_of(self._needs)
        comes = set(self.able_with({event: True for event in self.events}))
        self.never = tuple([event for event in self.events if event not in comes])

    @staticmethod
    def of(program):
        """The net of a program."""
        return net_of(program)

    @staticmethod
    def read(text):
        """The net of a text."""
        needs, notes = read_net_rows(text)
        return Net(needs, notes)

    def needs(self, event):
        """The ascending tuple of the needs of an event, each an ascending tuple of events."""
        if event not in self:
            raise Unknown(event)
        return self._needs[event]

    def notes(self, event):
        """The tuple of the notes that an event makes."""
        if event not in self:
            raise Unknown(event)
        return self._notes[event]

    def able_with(self, allowed):
        """The ascending list of the events whose needs are met when all of `allowed` that can come did, and no others.

        `allowed` is a dict with the events as its keys. Those of the list that are in it came, the others are ready.
        """
        unmet = {event: len(self._needs[event]) for event in self.events}
        coming = [event for event in self.events if unmet[event] == 0 and event in allowed]
        met = set()
        while coming:
            event = coming.pop()
            for use in self.uses[event]:
                if use in met:
                    continue
                met.add(use)
                user, _ = use
                unmet[user] = unmet[user] - 1
                if unmet[user] == 0 and user in allowed:
                    coming.append(user)
        return [event for event in self.events if unmet[event] == 0]

    def __str__(self):
        return "\n".join(self.rows)

    def __eq__(self, other):
        return isinstance(other, Net) and self._needs == other._needs and self._notes == other._notes

    def __len__(self):
        return len(self.events)

    def __contains__(self, x):
        # Any value may be asked for, also one that cannot be a key.
        return isinstance(x, str) and x in self._needs


def net_of(program):
    """The net of a program."""
    world = world_behind(program)
    notes = {deed.event: deed.said for deed in world.deeds.values()}
    return Net(needs_of(world), notes)


def _ascending(needs):
    """The unlike needs, ascending, each without repetition."""
    return tuple(sorted(set([tuple(sorted(set(need))) for need in needs])))


def _uses_of(needs):
    uses = {event: [] for event in needs}
    for event in needs:
        for at, need in enumerate(needs[event]):
            for one in need:
                uses[one].append((event, at))
    return uses
