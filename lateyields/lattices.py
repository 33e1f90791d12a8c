"""All cuts of a net, as integers."""

from lateyields.errors import TooWide


class Lattice:
    """All cuts of a net. Events are numbered as in `net.events`, and a cut has bit `1 << k` if event k came.

    `steps` has, for each cut, the ascending list of the numbers of the events that are ready there. The cuts stand in
    it by the number of their events.
    """

    def __init__(self, net, most):
        self.net = net
        self.steps = {}
        needs = _needs_of(net)
        found = [0]
        while found:
            for cut in found:
                self.steps[cut] = _ready_numbers(needs, cut)
            found = list({cut | (1 << at): True for cut in found for at in self.steps[cut]})
            if len(self.steps) + len(found) > most:
                raise TooWide()

    def number(self, event):
        """The number of an event of the net."""
        return self.net.events.index(event)

    def events_in(self, bits):
        """The ascending tuple of the events with these bits."""
        return tuple([event for at, event in enumerate(self.net.events) if (bits >> at) & 1])

    def rows_of(self, sets):
        """Sets of events as ascending tuples, ascending by the number of their events and then as tuples."""
        found = [self.events_in(bits) for bits in sets]
        return [row for _, row in sorted(set([(len(events), events) for events in found]))]

    def lasts(self):
        """For each cut the bits of those of its events that can have come as the last one."""
        found = {0: 0}
        for cut in self.steps:
            for at in self.steps[cut]:
                more = cut | (1 << at)
                found[more] = found.get(more, 0) | (1 << at)
        return found

    def orders_ahead(self):
        """For each cut the number of the orders in which its events can come."""
        found = {0: 1}
        for cut in self.steps:
            for at in self.steps[cut]:
                more = cut | (1 << at)
                found[more] = found.get(more, 0) + found[cut]
        return found

    def orders_behind(self):
        """For each cut the number of the orders in which all events that are not in it can come."""
        found = {}
        for cut in reversed(list(self.steps)):
            numbers = self.steps[cut]
            found[cut] = sum([found[cut | (1 << at)] for at in numbers]) if numbers else 1
        return found


def _needs_of(net):
    """The needs of each event, as integers with the bits of their events."""
    bits = {event: 1 << at for at, event in enumerate(net.events)}
    return [[sum([bits[one] for one in need]) for need in net.needs(event)] for event in net.events]


def _ready_numbers(needs, cut):
    """The ascending list of the numbers of the events that are ready in a cut."""
    others = [at for at in range(len(needs)) if not (cut >> at) & 1]
    return [at for at in others if all([cut & need for need in needs[at]])]
