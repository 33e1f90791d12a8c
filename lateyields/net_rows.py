"""The rows of the text of a net."""

from lateyields.errors import BadRow
from lateyields.words import is_name

_SIGNS = "abcdefghijklmnopqrstuvwxyz0123456789./"
_LONGEST_EVENT = 60

_BEHIND = " < "
_EMPTY = "-"


def row_of(event, notes, needs):
    """The row of an event."""
    head = " ".join([event, *notes])
    if not needs:
        return head
    return head + _BEHIND + " ".join([_part_of(need) for need in needs])


def _part_of(need):
    return "|".join(need) if need else _EMPTY


def read_net_rows(text):
    """The needs of each event of a text, and the notes of each, as two dicts."""
    needs = {}
    notes = {}
    # The text of a net without events has no row, not an empty one.
    rows = text.split("\n") if text else []
    for at, row in enumerate(rows):
        head, mark, tail = row.partition(_BEHIND)
        event, *said = head.split(" ")
        parts = tail.split(" ") if mark else []
        if event in needs or not _fits(event, said, parts):
            raise BadRow(at)
        notes[event] = said
        needs[event] = [[] if part == _EMPTY else part.split("|") for part in parts]
    return needs, notes


def _fits(event, said, parts):
    if not _is_event(event):
        return False
    return all([is_name(part) for part in said]) and all([_is_need(part) for part in parts])


def _is_need(part):
    return part == _EMPTY or all([_is_event(one) for one in part.split("|")])


def _is_event(part):
    return 1 <= len(part) <= _LONGEST_EVENT and all([sign in _SIGNS for sign in part])
