"""Reads the rows of a program: which may stand where, and what they contain."""

from lateyields.errors import BadRow, TooMany, Unknown
from lateyields.words import has_form

_BLOCKS = ("repeat", "guard", "each")

_MOST_ROWS = 100
_MOST_JOBS = 6
_MOST_WALKS = 6
_MOST_DEEP = 6


class Step:
    """A row that is carried out, or begins a definition, with the rows of its block.

    `many` is its figure, 0 if there is none. The steps of a block are `body`; in a guard, `mark` is `late` or `mend`
    once that row has come, and `behind` are the steps behind it.
    """

    def __init__(self, parts):
        self.word = parts[0]
        self.name = ""
        self.how = ""
        self.many = 0
        self.body = []
        self.mark = ""
        self.behind = []
        if self.word == "repeat":
            self.many = int(parts[1])
        elif len(parts) > 1:
            self.name = parts[1]
        if self.word == "each":
            self.how = parts[2]
        if len(parts) > 3:
            self.many = int(parts[3])


def _keeps(block, walk):
    return block.how == "kept" and block.name == walk


class Reader:
    """Takes the rows of a program one after the other.

    `jobs` and `walks` are the steps of the definitions by their names, `gates` and `begun` the names of gates and
    those behind `begin`, `around` the steps that are not ended yet, the definition first.
    """

    def __init__(self):
        self.jobs = {}
        self.walks = {}
        self.gates = []
        self.begun = []
        self.deepest = 0
        self.around = []

    def take(self, parts):
        """Takes the next row, and tells whether it is a row that may stand there."""
        if not has_form(parts):
            return False
        word = parts[0]
        if word in ("job", "walk"):
            return self._define(parts)
        if not self.around:
            return False
        if word in ("late", "mend"):
            return self._mark(word)
        if word == "end":
            return self._end()
        return self._add(Step(parts))

    def _define(self, parts):
        earlier = self.jobs if parts[0] == "job" else self.walks
        if self.around or parts[1] in earlier:
            return False
        self.around.append(Step(parts))
        return True

    def _mark(self, word):
        block = self.around[-1]
        if block.word != "guard" or block.mark:
            return False
        block.mark = word
        return True

    def _end(self):
        block = self.around[-1]
        if block.word == "guard" and not block.mark:
            return False
        self.around.pop()
        # Only here, since a walk may not be pulled within its own definition.
        if block.word == "job":
            self.jobs[block.name] = block
        elif block.word == "walk":
            self.walks[block.name] = block
        return True

    def _add(self, step):
        if not self._may_stand(step):
            return False
        block = self.around[-1]
        if block.mark:
            block.behind.append(step)
        else:
            block.body.append(step)
        self._remember(step)
        if step.word in _BLOCKS:
            self.deepest = max(self.deepest, len(self.around))
            self.around.append(step)
        return True

    def _may_stand(self, step):
        sort = self.around[0].word
        if step.word == "give":
            return sort == "walk" and not any([block.mark == "late" for block in self.around])
        if step.word != "each":
            return True
        if step.name not in self.walks:
            return False
        if step.how != "kept":
            return True
        return sort == "job" and not any([_keeps(block, step.name) for block in self.around])

    def _remember(self, step):
        if step.word in ("wait", "open"):
            self.gates.append(step.name)
        elif step.word == "begin":
            self.begun.append(step.name)


def read_rows(rows):
    """The reader that has taken all rows of a program."""
    reader = Reader()
    for at, row in enumerate(rows):
        if not reader.take(row.split(" ")):
            raise BadRow(at)
    if reader.around:
        raise BadRow(len(rows))
    _check_names(reader)
    _check_limits(reader, len(rows))
    return reader


def _check_names(reader):
    for name in ["main"] + reader.begun:
        if name not in reader.jobs:
            raise Unknown(name)


def _check_limits(reader, rows):
    if rows > _MOST_ROWS:
        raise TooMany("rows")
    if len(reader.jobs) > _MOST_JOBS:
        raise TooMany("jobs")
    if len(reader.walks) > _MOST_WALKS:
        raise TooMany("walks")
    if reader.deepest > _MOST_DEEP:
        raise TooMany("deep")
