"""What the tests share: short texts, and short stories of what programs do."""

from lateyields.programs import Program
from lateyields.tales import Tale


def text_of(short):
    """The text of rows that are separated by `; `."""
    return "\n".join(short.split("; "))


def read(short):
    return Program.read(text_of(short))


def told(short):
    return Tale(read(short))


def story(tale):
    """All events with their notes, as one string: `main.0 a b, main.1, end`, ascending."""
    return ", ".join(" ".join((event,) + tale.notes(event)) for event in tale.events)


def raised(kind, work, *arguments, **more):
    """The exception of just this class that a call raises."""
    try:
        work(*arguments, **more)
    except Exception as error:
        if error.__class__ is kind:
            return error
        raise
    raise AssertionError("no " + kind.__name__)


class Like:
    """A value that is equal to everything, and has the hash of one string."""

    def __init__(self, word):
        self.word = word

    def __eq__(self, other):
        return True

    def __hash__(self):
        return hash(self.word)


def strange_values(word):
    """Values that are not this string, nor any event, job or name."""
    return ["", word + " ", " " + word, word.upper(), word + "\n", None, 0, 1, -1, True, False, 1.5, word.encode(),
            (word,), [word], {word: 1}, {word}, frozenset([word]), Like(word), object(), len, 10 ** 5000]
