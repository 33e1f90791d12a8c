"""Shelves: nets by names, and commands about them."""

from lateyields.commands import answer_of, read_command
from lateyields.errors import NoCommand, Unknown
from lateyields.nets import Net
from lateyields.programs import Program
from lateyields.words import is_name


class Shelf:
    """Nets by names. `names` is the ascending tuple of these."""

    def __init__(self):
        self.names = ()
        self._nets = {}

    def __setitem__(self, at, worth):
        if not is_name(at):
            raise Unknown(at)
        self._nets[at] = _net_of(worth)
        self.names = tuple(sorted(set(self._nets)))

    def __getitem__(self, at):
        if at not in self:
            raise Unknown(at)
        return self._nets[at]

    def __iter__(self):
        raise TypeError("a shelf is asked for its names")

    def __contains__(self, x):
        # Any value may be asked for, also one that cannot be a key.
        return isinstance(x, str) and x in self._nets

    def __len__(self):
        return len(self._nets)

    def __call__(self, row):
        word, names, parts = read_command(row)
        return answer_of(word, [self[name] for name in names], parts)


def _net_of(value):
    """The net that is put on a shelf: a net, or that of a program, or that of a text."""
    if isinstance(value, Net):
        return value
    if isinstance(value, Program):
        return Net.of(value)
    if not isinstance(value, str):
        raise NoCommand(value)
    if value.startswith("job ") or value.startswith("walk "):
        return Net.of(Program.read(value))
    return Net.read(value)
