"""What several calls ask of the events, schedules and indexes that they are passed."""

from lateyields.errors import Never, NoSchedule, Unknown


def check_events(net, events):
    """Refuses the first of these values that is no event."""
    for event in events:
        if event not in net:
            raise Unknown(event)


def check_coming(net, events):
    """Refuses the first of these values that is no event, then the first one that never comes."""
    check_events(net, events)
    for event in events:
        if event in net.never:
            raise Never(event)


def check_named(named, known):
    """Refuses the least of these values that is none of the known events, which are a net or the keys of a dict."""
    strange = [one for one in named if not isinstance(one, str) or one not in known]
    # Only strings have an order among each other.
    words = sorted(set([one for one in strange if isinstance(one, str)]))
    if words:
        raise Unknown(words[0])
    if strange:
        raise Unknown(strange[0])


def check_schedule(net, schedule):
    """Refuses what is no schedule, with the index of the first entry that is not ready there."""
    came = {}
    for at, entry in enumerate(schedule):
        if entry not in net or entry in came or not is_met(net, entry, came):
            raise NoSchedule(at)
        came[entry] = True
    if len(came) < len(net) - len(net.never):
        raise NoSchedule(len(came))


def is_met(net, event, came):
    """Whether all needs of an event are met when these events came."""
    return all([any([one in came for one in need]) for need in net.needs(event)])


def is_index(value, many):
    """Whether any value is an index of something that has so many entries."""
    return isinstance(value, int) and not isinstance(value, bool) and 0 <= value < many
