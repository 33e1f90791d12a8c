"""All orders of programs and nets, found the long way: by what the document says, without the package's own help."""

import itertools

from lateyields.loops import Loop


def event_of(loop, name):
    """The event that comes when `name` comes next."""
    if name == "end":
        return "end"
    return name + "." + str(len([event for event in loop.past if event.rpartition(".")[0] == name]))


def loops_behind(program, most=None):
    """A loop behind each schedule of a program, ascending; None if there are more than `most`."""
    found, begun = [], [Loop(program)]
    while begun:
        loop = begun.pop()
        for name in loop.ready[1:]:
            other = loop.copied()
            other(name)
            begun.append(other)
        if loop.ready:
            loop(loop.ready[0])
            begun.append(loop)
        else:
            found.append(loop)
        if most is not None and len(begun) + len(found) > most:
            return None
    return sorted(found, key=lambda loop: loop.past)


def ready_of(net, came):
    """The events of a net that can come behind these."""
    return [event for event in net.events if event not in came
            and all(any(one in came for one in need) for need in net.needs(event))]


def cuts_of(net, most=None):
    """All cuts of a net as sets of events; None if there are more than `most`."""
    found, begun = {frozenset()}, [frozenset()]
    while begun:
        came = begun.pop()
        for event in ready_of(net, came):
            more = came | {event}
            if more not in found:
                found.add(more)
                begun.append(more)
        if most is not None and len(found) > most:
            return None
    return found


def schedules_of(net, most=None):
    """All schedules of a net, ascending; None if there are more than `most`."""
    found, begun = [], [()]
    while begun:
        past = begun.pop()
        ready = ready_of(net, set(past))
        begun += [past + (event,) for event in ready]
        if not ready:
            found.append(past)
        if most is not None and len(begun) + len(found) > most:
            return None
    return sorted(found)


def least_of(sets):
    """Those of the sets that have no smaller one within them, as ascending tuples, by their number and then as such."""
    least = [one for one in sets if not any(other < one for other in sets)]
    return sorted((tuple(sorted(one)) for one in least), key=lambda row: (len(row), row))


def ways_of(event, cuts):
    """All ways of an event, by all cuts of its net."""
    return least_of([cut for cut in cuts if event in cut])


def blockers_of(net, event, cuts):
    """All blockers of an event, by all sets of other events and all cuts of the net."""
    others = [one for one in net.events if one != event]
    having = [cut for cut in cuts if event in cut]
    sets = [frozenset(row) for many in range(len(others) + 1) for row in itertools.combinations(others, many)]
    return least_of([one for one in sets if all(one & cut for cut in having)])


def log_of(net, row):
    """The notes of a row of events, without those that have none."""
    return tuple(net.notes(event) for event in row if net.notes(event))


def states_of(net, schedules):
    """For each row with which a log begins the set of its cuts, by all schedules."""
    found = {}
    for past in schedules:
        for many in range(len(past) + 1):
            came = set(past[:many])
            while silent := [event for event in ready_of(net, came) if not net.notes(event)]:
                came |= set(silent)
            found.setdefault(log_of(net, past[:many]), set()).add(frozenset(came))
    return {row: frozenset(found[row]) for row in found}
