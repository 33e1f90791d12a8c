"""Programs: their texts, read and checked."""

from lateyields.checks import is_index
from lateyields.errors import BadRow
from lateyields.reading import read_rows
from lateyields.words import is_how


class Program:
    """A program that never changes. Made by `Program.read`.

    `job_steps` and `walk_steps` are its definitions by their names.
    """

    def __init__(self, text):
        self.rows = tuple(text.split("\n"))
        reader = read_rows(self.rows)
        self.job_steps = reader.jobs
        self.walk_steps = reader.walks
        self.jobs = tuple(sorted(set(reader.jobs)))
        self.walks = tuple(sorted(set(reader.walks)))
        self.gates = tuple(sorted(set(reader.gates)))

    @staticmethod
    def read(text):
        """The program of a text."""
        return Program(text)

    def __str__(self):
        return "\n".join(self.rows)

    def __eq__(self, other):
        return isinstance(other, Program) and self.rows == other.rows

    def __len__(self):
        return len(self.rows)

    def turned(self, at, how):
        """The program in which the `each` at this index is left early in another way."""
        if not self._has_each(at) or not is_how(how):
            raise BadRow(at)
        parts = self.rows[at].split(" ")
        parts[2] = how
        rows = list(self.rows)
        rows[at] = " ".join(parts)
        try:
            return Program("\n".join(rows))
        except BadRow:
            raise BadRow(at) from None

    def _has_each(self, at):
        """Whether any value is the index of a row with `each`."""
        return is_index(at, len(self.rows)) and self.rows[at].startswith("each ")
