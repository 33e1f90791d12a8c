"""The states of the rows of a net's logs: to which cuts the schedules with a log that begins so can have come."""

from lateyields.errors import TooWide
from lateyields.lattices import Lattice


class States:
    """How the states of a net lead to each other.

    A state is the ascending tuple of its cuts (those of `Lattice`), `initial` that of the empty row. In the cuts of a
    state no event without notes is ready, since all of them have come that can.
    """

    def __init__(self, net, most):
        lattice = Lattice(net, most)
        self._steps = lattice.steps
        self._notes = [net.notes(event) for event in net.events]
        self._settled = _settled_cuts(lattice.steps, self._notes)
        self.initial = (self._settled[0],)

    def after(self, state):
        """For each entry that can follow the state of the row with it."""
        found = {}
        for cut in state:
            for at in self._steps[cut]:
                cuts = found.setdefault(self._notes[at], {})
                cuts[self._settled[cut | (1 << at)]] = True
        return {entry: tuple(sorted(set(found[entry]))) for entry in found}

    def is_last(self, state):
        """Whether the rows with this state are logs."""
        return any([len(self._steps[cut]) == 0 for cut in state])

    def all_after(self, most):
        """For each state that is not empty what `after` tells; no state is behind one that it leads to."""
        found = {}
        level = [self.initial]
        while level:
            for state in level:
                found[state] = self.after(state)
            level = list({other: True for state in level for other in found[state].values()})
            if len(found) + len(level) > most:
                raise TooWide()
        return found


def _settled_cuts(steps, notes):
    """For each cut the one to which it leads when all events without notes come that can."""
    found = {}
    for cut in reversed(list(steps)):
        silent = [at for at in steps[cut] if not notes[at]]
        found[cut] = found[cut | (1 << silent[0])] if silent else cut
    return found
