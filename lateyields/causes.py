"""What the events of a program need."""

from lateyields.worlds import END


def needs_of(world):
    """The needs of each event, where a program has been carried out to its last event."""
    deeds = list(world.deeds.values())
    turns = [deed for deed in deeds if deed.job != END]
    needs = {deed.event: _needs_of_turn(world, deeds, deed) for deed in turns}
    needs[END] = [[deed.event] for deed in turns if not deed.is_behind]
    return needs


def _needs_of_turn(world, deeds, deed):
    if deed.at > 0:
        needs = _needs_of_further(world, deeds, deed)
    else:
        needs = _needs_of_first(world, deeds, deed)
    if deed.is_behind:
        needs.append([END])
    return needs


def _needs_of_first(world, deeds, deed):
    """The needs of the first turn of a job."""
    if world.jobs[deed.job].is_closer:
        return [[one.event for one in deeds if deed.job in one.made]]
    if deed.job == "main":
        return []
    begins = [one for one in deeds if deed.job in one.begun]
    ahead = [one.event for one in begins if not one.is_behind]
    return [ahead or [one.event for one in begins]]


def _needs_of_further(world, deeds, deed):
    """The needs of a turn that has another one of its job ahead."""
    earlier = world.deeds[f"{deed.job}.{deed.at - 1}"]
    needs = [[earlier.event]]
    if earlier.gate is not None and not deed.is_behind:
        needs.append([one.event for one in deeds if earlier.gate in one.opened and not one.is_behind])
    return needs
