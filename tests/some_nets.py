"""Nets for comparisons, with what the document says of them found the long way."""

import functools

from all_orders import cuts_of, schedules_of
from any_net import either_parts, net_parts
from any_program import program_text
from lateyields.errors import LateError
from lateyields.nets import Net
from lateyields.programs import Program

# `n` and `o` never come, `d` needs one of two, `e` both.
TEXT = "a x\nb\nc < a\nd < a|b\ne < a b\nf y < d|n\nn < o\no < -\np < n|o c"

# Several ways of `f`, and an event `g` that comes only behind all others.
WAYS = "a\nb x\nc < a|b\nd x < a\ne < c d|b\nf y < a|c d|e|b\ng < a b c d e f"

# The document's own one, none, events without needs, one that never comes alone, a row of events.
TEXTS = (TEXT, WAYS, "a x\nb\nc y < a|b\nd < a c", "", "a\nb x\nc\nd x", "a < a", "a\nb < a\nc < b\nd < c")


@functools.cache
def small_nets(most=300):
    """Nets with their ascending schedules and their cuts, also nets of programs."""
    nets = [Net.read(text) for text in TEXTS] + [Net(*net_parts(seed)) for seed in range(150)]
    nets += [Net(*either_parts(seed)) for seed in range(60)]
    for seed in range(400):
        try:
            nets.append(Net.of(Program.read(program_text(seed))))
        except LateError:
            continue
    found = []
    for at, net in enumerate(nets):
        schedules = schedules_of(net, most) if len(net) <= 12 else None
        # Of many nets all events stand in a row.
        if schedules is not None and (len(schedules) > 1 or at < 12):
            found.append((net, schedules, cuts_of(net)))
    return found


def wide_nets():
    """Nets of many events, with too many schedules and cuts to go through."""
    names = ["e" + str(at) for at in range(60)]
    return {
        "loose": Net({name: [] for name in names}),
        "row": Net({name: [names[at - 1:at]] if at else [] for at, name in enumerate(names)}),
        "rows": Net({name: [names[at - 10:at - 9]] if at >= 10 else [] for at, name in enumerate(names)}),
        "either": Net({name: [names[at - 9:at - 7], names[at - 8:at - 6]] if at >= 9 else []
                       for at, name in enumerate(names)}),
        "wide": Net({name: [names[at - 8 - k:at - k] for k in range(0, 16, 2)] if at >= 24 else []
                     for at, name in enumerate(names)}),
        "many": Net({name: [[one] for one in names[max(0, at - 8):at]] if at % 9 else []
                     for at, name in enumerate(names)}),
        "never": Net({name: [[name]] if at % 5 == 4 else [names[at - 5:at]] if at >= 5 else []
                      for at, name in enumerate(names)}),
    }


def wide(chains, last=False):
    """The net of some rows of events; with `last` one more event, behind all others.

    The numbers of the cuts of the rows, each its length and one more, multiply; `last` makes one more.
    """
    needs = {}
    for row, many in enumerate(chains):
        for at in range(many):
            needs["r" + str(row) + "." + str(at)] = [["r" + str(row) + "." + str(at - 1)]] if at else []
    if last:
        needs["z"] = [[one] for one in needs]
    return Net(needs)
