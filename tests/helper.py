"""What the tests share: short texts, and short stories of what programs do."""

from lateyields.programs import Program
from lateyields.tales import Tale


def text_of(short):
    """The text of rows that are separated by `; `."""
    return "\n".join(short.split("; "))


def read(short):
    return Program.read(text_of(short))


def told(short):
    return Tale(read(short))


def story(tale):
    """All events with their notes, as one string: `main.0 a b, main.1, end`, ascending."""
    return ", ".join(" ".join((event,) + tale.notes(event)) for event in tale.events)


def raised(kind, work, *arguments, **more):
    """The exception of just this class that a call raises."""
    try:
        work(*arguments, **more)
    except Exception as error:
        if error.__class__ is kind:
            return error
        raise
    raise AssertionError("no " + kind.__name__)
