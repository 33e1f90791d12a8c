"""In which order two events can come, and papers that show it."""

from lateyields.checks import check_coming, is_met
from lateyields.copies import copy_of
from lateyields.cuts import Cut

_SAME = "same"
_AHEAD = "ahead"
_BEHIND = "behind"
_LOOSE = "loose"


class Paper:
    """What shows the order of two events: a word, the events, and those behind which they come. It never changes."""

    def __init__(self, word, one, other, events):
        self.word = copy_of(word)
        self.one = copy_of(one)
        self.other = copy_of(other)
        self.events = tuple(copy_of(events)) if isinstance(events, list) else copy_of(events)

    def holds(self, net):
        """Whether the paper shows that the two events have this order in a net. Any values may be in it."""
        if not isinstance(self.word, str) or not self._has_events_of(net):
            return False
        if self.word == _AHEAD:
            return self._lets_come_only(net, self.one)
        if self.word == _BEHIND:
            return self._lets_come_only(net, self.other)
        return self.word == _LOOSE and self._lets_come_both(net)

    def _has_events_of(self, net):
        """Whether there are two unlike events that come at some time, and a tuple of other events."""
        both = [self.one, self.other]
        if not all([event in net and event not in net.never for event in both]) or self.one == self.other:
            return False
        return isinstance(self.events, tuple) and all([one in net and one not in both for one in self.events])

    def _lets_come_only(self, net, event):
        """Whether behind these events, which need not be a cut, nothing else than this event can come."""
        others = [one for one in net.events if one not in self.events and one != event]
        return not any([is_met(net, one, self.events) for one in others])

    def _lets_come_both(self, net):
        """Whether these events are those of a cut where both are ready."""
        able = net.able_with({event: True for event in self.events})
        return all([event in able for event in [*self.events, self.one, self.other]])


def order_of(net, one, other):
    """The word for the order in which two events can come."""
    paper = paper_of(net, one, other)
    return _SAME if paper is None else paper.word


def paper_of(net, one, other):
    """The paper that shows the order of two events, or None if they are equal."""
    check_coming(net, [one, other])
    if one == other:
        return None
    # Behind this cut nothing but these two is left to come, and one of them at least can.
    cut = Cut.without(net, [one, other])
    word = _LOOSE
    if other not in cut.ready:
        word = _AHEAD
    elif one not in cut.ready:
        word = _BEHIND
    return Paper(word, one, other, cut.events)


def latest(net, event):
    """The greatest index that an event has in any schedule."""
    check_coming(net, [event])
    return len(Cut.without(net, [event]))


def round_of(net, event):
    """The round in which an event comes if in each round all that are ready come at once."""
    check_coming(net, [event])
    many = 0
    able = net.able_with({})
    while event not in able:
        many = many + 1
        able = net.able_with({one: True for one in able})
    return many
