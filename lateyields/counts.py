"""How many cuts and schedules a net has, and where its events stand in these."""

from lateyields.checks import check_coming, check_named, check_schedule, is_index
from lateyields.cuts import Cut
from lateyields.errors import NoSchedule
from lateyields.lattices import Lattice


def cuts_of(net, *, most=4000):
    """The number of cuts."""
    return len(Lattice(net, most).steps)


def schedules_of(net, *, most=4000):
    """The number of schedules."""
    return Lattice(net, most).orders_behind()[0]


def schedule_at(net, number, *, most=4000):
    """The schedule with this index in the ascending order of all schedules."""
    lattice = Lattice(net, most)
    behind = lattice.orders_behind()
    if not is_index(number, behind[0]):
        raise NoSchedule(number)
    cut = 0
    left = number
    row = []
    while lattice.steps[cut]:
        for at in lattice.steps[cut]:
            more = cut | (1 << at)
            if left < behind[more]:
                break
            # All schedules that go on with this event are ahead of the one that is asked for.
            left = left - behind[more]
        row.append(net.events[at])
        cut = more
    return tuple(row)


def index_of(net, schedule, *, most=4000):
    """The index of a schedule in the ascending order of all schedules."""
    lattice = Lattice(net, most)
    check_schedule(net, schedule)
    behind = lattice.orders_behind()
    cut = 0
    many = 0
    for event in schedule:
        number = lattice.number(event)
        many = many + sum([behind[cut | (1 << at)] for at in lattice.steps[cut] if at < number])
        cut = cut | (1 << number)
    return many


def ahead_of(net, one, other, *, most=4000):
    """In how many schedules the first event is ahead of the other one."""
    check_coming(net, [one, other])
    lattice = Lattice(net, most)
    bit = 1 << lattice.number(one)
    found = _orders_with(lattice, other)
    return sum([found[cut] for cut in found if cut & bit])


def places_of(net, event, *, most=4000):
    """For each index of a schedule, how many schedules have the event there."""
    check_coming(net, [event])
    lattice = Lattice(net, most)
    found = _orders_with(lattice, event)
    many = [0] * (len(net) - len(net.never))
    for cut in found:
        at = len(lattice.events_in(cut))
        many[at] = many[at] + found[cut]
    return many


def greatest(net, weights, *, most=4000):
    """A cut whose weight is as great as that of any cut."""
    check_named(list(weights), net)
    lattice = Lattice(net, most)
    worth = {0: 0}
    best = 0
    for cut in lattice.steps:
        if worth[cut] > worth[best]:
            best = cut
        for at in lattice.steps[cut]:
            worth[cut | (1 << at)] = worth[cut] + weights.get(net.events[at], 0)
    return Cut(net, lattice.events_in(best))


def _orders_with(lattice, event):
    """For each cut where an event is ready, the number of the schedules in which it comes just there."""
    number = lattice.number(event)
    ahead = lattice.orders_ahead()
    behind = lattice.orders_behind()
    cuts = [cut for cut in lattice.steps if number in lattice.steps[cut]]
    return {cut: ahead[cut] * behind[cut | (1 << number)] for cut in cuts}
