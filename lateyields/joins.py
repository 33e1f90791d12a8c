"""Nets that are made of other nets."""

from lateyields.checks import is_index
from lateyields.errors import BadRow, Taken
from lateyields.nets import Net


def beside(one, other):
    """The net of the events of both, each with its own needs and notes."""
    return _joined(one, other, [])


def behind(one, other):
    """The same, but each event of the second net needs, besides, each event of the first one that ever comes."""
    return _joined(one, other, [(event,) for event in one.events if event not in one.never])


def renamed(net, sign):
    """The net in which each event has this string ahead of its name."""
    needs = {sign + event: [[sign + one for one in need] for need in net.needs(event)] for event in net.events}
    return Net(needs, {sign + event: net.notes(event) for event in net.events})


def loosened(net, event, at):
    """The net without one of the needs of an event."""
    kept = list(net.needs(event))
    if not is_index(at, len(kept)):
        raise BadRow(at)
    del kept[at]
    needs = _needs_of(net)
    needs[event] = kept
    return Net(needs, _notes_of(net))


def _joined(one, other, more):
    """The net of the events of both, those of the second one with more needs."""
    taken = [event for event in one.events if event in other]
    if taken:
        raise Taken(taken[0])
    needs = _needs_of(other)
    behind_needs = {event: needs[event] + more for event in needs}
    return Net({**_needs_of(one), **behind_needs}, {**_notes_of(one), **_notes_of(other)})


def _needs_of(net):
    return {event: list(net.needs(event)) for event in net.events}


def _notes_of(net):
    return {event: net.notes(event) for event in net.events}
