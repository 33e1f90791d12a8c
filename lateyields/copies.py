"""Copies of values that callers passed, so that later changes of these have no effect."""

# Lists and dicts are promised to be copied eight deep. A list that contains
# itself has no end, so the copying stops somewhat behind that.
_DEPTH = 12


def copy_of(value, depth=_DEPTH):
    """The value, with all lists and dicts in it copied."""
    if depth == 0:
        return value
    if isinstance(value, list):
        return [copy_of(one, depth - 1) for one in value]
    if isinstance(value, dict):
        return {key: copy_of(value[key], depth - 1) for key in value}
    if isinstance(value, tuple):
        return tuple([copy_of(one, depth) for one in value])
    return value
