"""Makes nets by chance, for comparisons: always the same one for the same number."""

import random

EVENTS = ("a", "b", "c.0", "c.1", "d", "e/1.0", "f")
NOTES = ("x", "y", "z")


def net_parts(seed):
    """The needs and the notes of a net, as dicts of lists."""
    chance = random.Random(seed)
    events = list(EVENTS[:chance.randrange(0, len(EVENTS) + 1)])
    chance.shuffle(events)
    needs = {}
    for at, event in enumerate(events):
        # Mostly events that are ahead in this row, so that not too many never come.
        others = events[:at] if chance.random() < 0.8 else events
        needs[event] = [need_of(chance, others) for _ in range(chance.choice((0, 0, 1, 1, 1, 2, 3)))]
    notes = {event: [chance.choice(NOTES) for _ in range(chance.randrange(0, 3))]
             for event in events if chance.random() < 0.5}
    return needs, notes


def need_of(chance, events):
    if not events or chance.random() < 0.03:
        return []
    return [chance.choice(events) for _ in range(chance.choice((1, 1, 2, 2, 3)))]


def either_parts(seed):
    """The needs and the notes of a net in which many events can come in several ways."""
    chance = random.Random(-1 - seed)
    events = list(EVENTS[:chance.randrange(4, 7)])
    chance.shuffle(events)
    needs = {}
    for at, event in enumerate(events):
        many = 0 if at < 2 else chance.choice((0, 1, 1, 2))
        needs[event] = [chance.sample(events[:at], min(at, chance.choice((1, 2, 2, 3)))) for _ in range(many)]
    # Few notes, so that many events make the same ones.
    notes = {event: [chance.choice(NOTES[:2])] for event in events if chance.random() < 0.7}
    return needs, notes
