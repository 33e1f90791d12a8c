"""Commands: rows that ask for something of nets, and the answers to them."""

from lateyields.counts import schedule_at, schedules_of
from lateyields.errors import NoCommand
from lateyields.logs import least_log, parted
from lateyields.orders import order_of
from lateyields.ways import blockers, ways
from lateyields.words import is_name

_DIGITS = "0123456789"
_MOST_DIGITS = 12

_FORMS = {
    "count": ("name",),
    "at": ("name", "number"),
    "order": ("name", "event", "event"),
    "ways": ("name", "event"),
    "blockers": ("name", "event"),
    "log": ("name",),
    "same": ("name", "name"),
}

_EMPTY = "-"


def read_command(row):
    """The word, the names of nets and the other parts of a command."""
    if not isinstance(row, str) or "\n" in row:
        raise NoCommand(row)
    word, *parts = row.split(" ")
    if not _fits(word, parts):
        raise NoCommand(row)
    many = _FORMS[word].count("name")
    return word, parts[:many], parts[many:]


def answer_of(word, nets, parts):
    """The answer to a command for these nets, with its parts behind their names."""
    action = _ANSWERS[word]
    return action(nets, parts)


def _fits(word, parts):
    if word not in _FORMS or len(parts) != len(_FORMS[word]):
        return False
    return all([_is_of_sort(part, sort) for part, sort in zip(parts, _FORMS[word])])


def _is_of_sort(part, sort):
    if sort == "name":
        return is_name(part)
    if sort == "number":
        return _is_number(part)
    return part != ""


def _is_number(part):
    if not 1 <= len(part) <= _MOST_DIGITS or not all([sign in _DIGITS for sign in part]):
        return False
    return part == "0" or not part.startswith("0")


def _count(nets, parts):
    return str(schedules_of(nets[0]))


def _at(nets, parts):
    return " ".join(schedule_at(nets[0], int(parts[0])))


def _order(nets, parts):
    return order_of(nets[0], parts[0], parts[1])


def _ways(nets, parts):
    return _told(ways(nets[0], parts[0]))


def _blockers(nets, parts):
    return _told(blockers(nets[0], parts[0]))


def _log(nets, parts):
    log = least_log(nets[0])
    return " ".join([_joined(entry) for entry in log]) if log else _EMPTY


def _same(nets, parts):
    return "yes" if parted(nets[0], nets[1]) is None else "no"


def _told(rows):
    return " ".join([_joined(row) for row in rows]) if rows else "none"


def _joined(row):
    return "+".join(row) if row else _EMPTY


_ANSWERS = {
    "count": _count,
    "at": _at,
    "order": _order,
    "ways": _ways,
    "blockers": _blockers,
    "log": _log,
    "same": _same,
}
