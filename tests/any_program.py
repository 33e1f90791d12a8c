"""Makes programs by chance, for comparisons: always the same one for the same number."""

import random

GATES = ("g", "h", "k")
NOTES = ("a", "b", "c", "d")
ERRORS = ("x", "y", "z")
JOBS = ("main", "other", "third", "fourth")


class Maker:
    def __init__(self, seed):
        self.chance = random.Random(seed)
        self.walks = []
        self.rows = []

    def text(self):
        for name in ("w", "v", "u")[:self.chance.choice((0, 1, 1, 2, 2, 3))]:
            self.rows.append("walk " + name)
            self.block("walk", 0, False, (), self.chance.randrange(1, 4))
            self.rows.append("end")
            self.walks.append(name)
        self.jobs = JOBS[:self.chance.randrange(1, 5)]
        for name in self.jobs:
            self.rows.append("job " + name)
            self.block("job", 0, False, (), self.chance.randrange(1, 5))
            self.rows.append("end")
        return "\n".join(self.rows)

    def block(self, sort, deep, late, kept, many):
        for _ in range(many):
            self.row(sort, deep, late, kept)

    def row(self, sort, deep, late, kept):
        words = ["say"] * 4 + ["pause"] + ["wait"] * (3 if late else 1) + ["open", "begin", "begin", "fail"]
        if sort == "walk" and not late:
            words += ["give"] * 8
        if deep < 4:
            words += ["repeat"] + ["guard"] * 5
            words += ["each"] * (8 if self.walks else 0)
        word = self.chance.choice(words)
        if word in ("pause", "give"):
            self.rows.append(word)
        elif word in ("repeat", "guard", "each"):
            getattr(self, word)(sort, deep + 1, late, kept)
        elif word != "begin":
            names = {"say": NOTES, "wait": GATES, "open": GATES, "fail": ERRORS}[word]
            self.rows.append(word + " " + self.chance.choice(names))
        else:
            # The jobs are not made yet while walks are: `main` is always one.
            names = self.jobs if sort == "job" else JOBS[:1]
            self.rows.append("begin " + self.chance.choice(names))

    def few(self):
        return self.chance.choice((0, 1, 1, 2, 2, 3))

    def repeat(self, sort, deep, late, kept):
        self.rows.append("repeat " + self.chance.choice("1223"))
        self.block(sort, deep, late, kept, self.few())
        self.rows.append("end")

    def guard(self, sort, deep, late, kept):
        mark = self.chance.choice(("late", "late", "mend"))
        self.rows.append("guard")
        self.block(sort, deep, late, kept, self.few())
        self.rows.append(mark)
        self.block(sort, deep, late or mark == "late", kept, self.few())
        self.rows.append("end")

    def each(self, sort, deep, late, kept):
        walk = self.chance.choice(self.walks)
        hows = ["closed", "dropped"]
        if sort == "job" and walk not in kept:
            hows += ["kept"] * 2
        how = self.chance.choice(hows)
        figure = self.chance.choice(("", "", " 1", " 1", " 2"))
        self.rows.append("each " + walk + " " + how + figure)
        if how == "kept":
            kept = kept + (walk,)
        self.block(sort, deep, late, kept, self.few())
        self.rows.append("end")


def program_text(seed):
    """The text of a program."""
    return Maker(seed).text()
