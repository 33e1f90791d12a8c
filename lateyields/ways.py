"""What an event needs in all, and what keeps it from coming."""

from lateyields.checks import check_coming, check_events
from lateyields.lattices import Lattice


def ways(net, event, *, most=4000):
    """The ways of an event: the least cuts in which it is."""
    check_events(net, [event])
    lattice = Lattice(net, most)
    bit = 1 << lattice.number(event)
    lasts = lattice.lasts()
    # Between a cut and a smaller one within it, events come one by one: so a cut has no smaller one with the event
    # exactly if no other event can have come last.
    return lattice.rows_of([cut for cut in lasts if lasts[cut] == bit])


def blockers(net, event, *, most=4000):
    """The blockers of an event: the least sets of other events without which it never comes."""
    check_events(net, [event])
    lattice = Lattice(net, most)
    bit = 1 << lattice.number(event)
    # If a set keeps the event from coming, so do those of it that are ready where everything else that can come did.
    sets = [[1 << at for at in lattice.steps[cut]] for cut in lattice.steps if not cut & bit]
    return lattice.rows_of(_least_of([bits for bits in sets if bit not in bits]))


def earliest(net, event, *, most=4000):
    """The least index that an event has in any schedule."""
    check_coming(net, [event])
    rows = ways(net, event, most=most)
    return len(rows[0]) - 1


def unlike_ways(net, *, most=4000):
    """The least event that has two ways or more, or None."""
    lasts = list(Lattice(net, most).lasts().values())
    for at, event in enumerate(net.events):
        if lasts.count(1 << at) > 1:
            return event
    return None


def _least_of(sets):
    """Those of the sets (lists of bits) that have no smaller one within them, as integers."""
    least = []
    for _, bits in sorted(set([(len(one), sum(one)) for one in sets])):
        if not _has_within(bits, least):
            least.append(bits)
    return least


def _has_within(bits, sets):
    """Whether one of the sets is within these bits."""
    for one in sets:
        if one & bits == one:
            return True
    return False
