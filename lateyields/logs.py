"""Logs: the notes of the events of a schedule, without the events that make none."""

from lateyields.errors import TooWide
from lateyields.states import States


def is_log(net, log, *, most=400):
    """Whether any value is the log of some schedule."""
    states = States(net, most)
    if not isinstance(log, (list, tuple)) or not all([_is_entry(entry) for entry in log]):
        return False
    state = states.initial
    for entry in log:
        state = states.after(state).get(entry, ())
    return states.is_last(state)


def logs_of(net, *, most=400):
    """The number of unlike logs."""
    states = States(net, most)
    after = states.all_after(most)
    many = {}
    for state in reversed(list(after)):
        others = list(after[state].values())
        many[state] = sum([many[other] for other in others]) if others else 1
    return many[states.initial]


def least_log(net, *, most=400):
    """The least log."""
    states = States(net, most)
    after = states.all_after(most)
    state = states.initial
    row = []
    # All logs are equally long, so the least entry that can follow is always that of the least log.
    while after[state]:
        entry = sorted(set(after[state]))[0]
        row.append(entry)
        state = after[state][entry]
    return tuple(row)


def parted(one, other, *, most=400):
    """The shortest log, the least of these, that just one of two nets has; None if they have the same logs."""
    mine = States(one, most)
    yours = States(other, most)
    apart = None
    many = 0
    # The pairs of states of all rows of one length, each with its least row. No pair has rows of unlike lengths: the
    # events with notes that came in a cut are as many as the entries.
    level = {(mine.initial, yours.initial): ()}
    while level:
        many = many + len(level)
        if many > most:
            raise TooWide()
        if apart is None:
            apart = _least_apart(mine, yours, level)
        level = _level_behind(mine, yours, level)
    return apart


def _least_apart(mine, yours, level):
    """The least row that is a log of just one net, or None. The rows in `level` are ascending."""
    for pair in level:
        if mine.is_last(pair[0]) != yours.is_last(pair[1]):
            return level[pair]
    return None


def _level_behind(mine, yours, level):
    """The pairs of states of the rows that are longer by one entry, each with its least row, these ascending."""
    found = {}
    for pair in level:
        first = mine.after(pair[0])
        second = yours.after(pair[1])
        for entry in sorted(set([*first, *second])):
            states = (first.get(entry, ()), second.get(entry, ()))
            found.setdefault(states, (*level[pair], entry))
    return found


def _is_entry(value):
    return isinstance(value, tuple) and all([isinstance(note, str) for note in value])
