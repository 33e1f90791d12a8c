"""The words of the language, and the forms of its rows."""

WORDS = ("say", "pause", "wait", "open", "begin", "fail", "give", "repeat", "guard", "late", "mend",
         "end", "each", "job", "walk", "closed", "dropped", "kept")

HOWS = ("closed", "dropped", "kept")

# The figure of an `each` may be missing, so it is not in this table.
_FORMS = {
    "say": ("name",),
    "pause": (),
    "wait": ("name",),
    "open": ("name",),
    "begin": ("name",),
    "fail": ("name",),
    "give": (),
    "repeat": ("figure",),
    "guard": (),
    "late": (),
    "mend": (),
    "end": (),
    "each": ("name", "how"),
    "job": ("name",),
    "walk": ("name",),
}

_LONGEST_WORD = 8


def is_name(value):
    """Whether any value is a word that is none of the words of the language."""
    if not isinstance(value, str) or not 1 <= len(value) <= _LONGEST_WORD:
        return False
    return value not in WORDS and all(["a" <= sign <= "z" for sign in value])


def is_how(value):
    """Whether any value is one of the three ways to leave an `each` early."""
    return isinstance(value, str) and value in HOWS


def _is_figure(part):
    return len(part) == 1 and "1" <= part <= "9"


def _is_of_sort(part, sort):
    if sort == "name":
        return is_name(part)
    if sort == "how":
        return is_how(part)
    return _is_figure(part)


def has_form(parts):
    """Whether the parts are those of a row of the language, wherever it stands."""
    if parts[0] not in _FORMS:
        return False
    form = _FORMS[parts[0]]
    if parts[0] == "each" and len(parts) == 4:
        form = ("name", "how", "figure")
    if len(parts) != len(form) + 1:
        return False
    return all([_is_of_sort(part, sort) for part, sort in zip(parts[1:], form)])
