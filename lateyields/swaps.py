"""How exchanges of neighbours lead from one schedule to another."""

from lateyields.checks import check_schedule


def swaps(net, one, other):
    """The places at which neighbours are exchanged, one after the other, on the shortest way between two schedules."""
    check_schedule(net, one)
    check_schedule(net, other)
    row = list(one)
    places = []
    for at, event in enumerate(other):
        # It is ready behind the entries that stand there by now, and those that it passes keep all that they had ahead:
        # so all rows between are schedules. Each exchange is of a pair that the other schedule has the other way round.
        found = row.index(event)
        del row[found]
        row.insert(at, event)
        places.extend(list(reversed(range(at, found))))
    return places


def distance(net, one, other):
    """The number of the pairs of events that stand in unlike orders."""
    return len(swaps(net, one, other))
