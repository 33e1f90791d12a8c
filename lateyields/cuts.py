"""Cuts: the events that can be the first ones of a schedule."""

from lateyields.checks import check_events
from lateyields.errors import NoCut, NotReady, OtherNet

_CAME = b"1"
_OPEN = b"0"


class Cut:
    """The events of a net that came, in whatever order they did. It never changes.

    Cuts are ordered, and equal, by their `rank`.
    """

    def __init__(self, net, events=()):
        check_events(net, events)
        allowed = {event: True for event in events}
        able = net.able_with(allowed)
        came = {event: True for event in able if event in allowed}
        stuck = sorted(set([event for event in events if event not in came]))
        if stuck:
            raise NoCut(stuck[0])
        self.net = net
        self.events = tuple(came)
        self._ready = tuple([event for event in able if event not in allowed])
        self.is_full = len(self._ready) == 0
        self.rank = (str(net), len(self.events), self.events)

    @staticmethod
    def unpacked(net, data):
        """The cut of the bytes that `packed` returns."""
        if len(data) != len(net) or len(data) != data.count(_CAME) + data.count(_OPEN):
            raise NoCut(None)
        return Cut(net, [event for at, event in enumerate(net.events) if data[at:at + 1] == _CAME])

    @staticmethod
    def without(net, events):
        """The greatest cut in which none of these events is."""
        check_events(net, events)
        return _greatest_cut(net, [event for event in net.events if event not in events])

    @staticmethod
    def full(net):
        """The cut of all events that ever come."""
        return _greatest_cut(net, net.events)

    @property
    def ready(self):
        """The ascending tuple of the events that are ready."""
        # Loops have a property of this name, so no object can have it as a plain attribute.
        return self._ready

    def within(self, other):
        """Whether all events of this cut are in another one, too."""
        _check_nets(self, other)
        return all([event in other for event in self.events])

    def packed(self):
        """For each event of the net the sign `1` if it came, else `0`, as bytes."""
        return b"".join([_CAME if event in self else _OPEN for event in self.net.events])

    def __len__(self):
        return len(self.events)

    def __contains__(self, x):
        return isinstance(x, str) and x in self.events

    def __add__(self, other):
        if not isinstance(other, str) or other not in self.ready:
            raise NotReady(other)
        return Cut(self.net, [*self.events, other])

    def __or__(self, other):
        _check_nets(self, other)
        return Cut(self.net, [*self.events, *other.events])

    def __and__(self, other):
        _check_nets(self, other)
        # The common events need not be a cut.
        return _greatest_cut(self.net, [event for event in self.events if event in other])

    def __eq__(self, other):
        return isinstance(other, Cut) and self.rank == other.rank

    def __lt__(self, other):
        if not isinstance(other, Cut):
            return NotImplemented
        return self.rank < other.rank

    def __le__(self, other):
        if not isinstance(other, Cut):
            return NotImplemented
        return self.rank <= other.rank

    def __gt__(self, other):
        if not isinstance(other, Cut):
            return NotImplemented
        return self.rank > other.rank

    def __ge__(self, other):
        if not isinstance(other, Cut):
            return NotImplemented
        return self.rank >= other.rank


def _greatest_cut(net, events):
    """The greatest cut that has no other events than these."""
    allowed = {event: True for event in events}
    return Cut(net, [event for event in net.able_with(allowed) if event in allowed])


def _check_nets(one, other):
    if one.net != other.net:
        raise OtherNet()
