"""Points [37] and [38]: logs, compared with all logs found the long way, and nets that are too wide."""

import itertools
import math
import unittest

from all_orders import cuts_of, log_of, schedules_of, states_of
from any_net import either_parts, net_parts
from helper import Like, raised
from lateyields.errors import TooWide
from lateyields.joins import behind, renamed
from lateyields.logs import is_log, least_log, logs_of, parted
from lateyields.nets import Net
from some_nets import TEXT, small_nets, wide, wide_nets

# Nets with more states than cuts: 27 and 30, 44 and 48, 58 and 60, 118 and 143.
MANY_STATES = (
    "a x\nb y < a\nc y\nd x < a|b\ne y < b|d\nf y < c|e",
    "a y\nb x < a\nc y < a b\nd x < b\ne y < c\nf x\ng y < f\nh x < c d|g\ni x < g",
    "a x\nb x < a\nc y < a a|b\nd y < c\ne y < b\nf y < d\ng x < c|d\nh y < f\ni x < b e\nj x < g|i",
    "a x\nb x < a\nc y < a|b\nd x < b|c\ne y < d\nf y < a|d e\ng x < d\nh y\ni y < c|h f|h\nj y < g|i",
)


def noted(net, sign):
    """The net in which each event makes one note, all unlike ones that begin with the sign."""
    letters = "abcdefghijklmnopqrstuvwxyz"
    notes = {event: [sign + letters[at // 26] + letters[at % 26]] for at, event in enumerate(net.events)}
    return Net({event: net.needs(event) for event in net.events}, notes)


def in_a_row(nets):
    """All nets, each behind the one ahead of it."""
    made = Net({})
    for sign, net in zip("abcdefghij", nets):
        made = behind(made, renamed(net, sign))
    return made


def logs_by_hand(net, schedules):
    return sorted({log_of(net, row) for row in schedules})


def rows_near(log):
    """Rows that are like a log, but may be none."""
    entries = list(dict.fromkeys(log)) + [("x",), ("y", "x"), (), ("q",)]
    rows = [log, log * 2, log[::-1]]
    for at in range(len(log) + 1):
        rows += [log[:at] + (entry,) + log[at:] for entry in entries]
        rows += [log[:at] + (entry,) + log[at + 1:] for entry in entries]
        rows += [log[:at], log[at:], log[:at] + log[at + 1:], log[:at] + log[at:at + 2][::-1] + log[at + 2:]]
    return rows


def two_nets():
    """Pairs of nets with their schedules, some with the same logs."""
    rows = [row[:2] for row in small_nets() if len(row[1]) <= 70]
    pairs = [(rows[at], rows[at + step]) for step in (1, 7) for at in range(0, len(rows) - step)]
    loose = [(net, schedules_of(net)) for net in (
        Net.read("a x\nb y < a"), Net.read("a x\nb y"), Net.read("a x\nb y\nc < a b"), Net.read("b y\nc < b\nd x < c"),
        Net.read("a x\nb x"), Net.read("a x\nb x < a"), Net.read("a x x"), Net.read("a"), Net({}), Net.read("a x"),
        Net.read("a x\nb x < a\nc y"), Net.read("a x\nb x\nc y"), Net.read("a x\nb y < a|c\nc x < a"))]
    return pairs + list(itertools.product(loose, repeat=2)) + [(row, row) for row in rows[::3]]


class IsLog(unittest.TestCase):
    def test_all_logs_and_rows_near_them(self):
        none = 0
        for net, schedules, _ in small_nets():
            logs = set(logs_by_hand(net, schedules))
            for log in sorted(logs)[:6]:
                for row in set(rows_near(log)):
                    self.assertIs(is_log(net, row), row in logs)
                    none += row not in logs
                self.assertIs(is_log(net, list(log)), True)
            self.assertTrue(all(is_log(net, log) for log in logs))
        self.assertGreater(none, 1000)

    def test_all_rows(self):
        net = Net.read("a x\nb\nc y < a|b\nd < a c\ne x < d|b")
        logs = logs_by_hand(net, schedules_of(net))
        for many in range(5):
            for row in itertools.product([("x",), ("y",), ()], repeat=many):
                self.assertIs(is_log(net, row), row in logs)
                self.assertIs(is_log(net=net, log=list(row), most=50), row in logs)

    def test_other_values(self):
        net = Net.read("a x\nb y z < a")
        good = (("x",), ("y", "z"))
        self.assertTrue(is_log(net, good) and is_log(net, list(good)))
        for value in (None, True, 0, "", "x", "xy", b"x", {("x",): 1, ("y", "z"): 2}, {("x",)}, frozenset([("x",)]),
                      object(), 1.5, Like("x"), iter(good), range(2), [["x"], ["y", "z"]], (["x"], ("y", "z")),
                      [("x",), ["y", "z"]], ("x", ("y", "z")), (("x",), "yz"), (("x",), ("y", "z"), None), [None],
                      (("x",), (("y", "z"),)), ((Like("x"),), ("y", "z")), (Like("x"), ("y", "z")),
                      (("x",), ("y", ["z"])), (({"x": 1},), ("y", "z")), (("x",), {"y": 1, "z": 2}),
                      ((b"x",), ("y", "z")), (("x", None), ("y", "z")), [good], (good,)):
            self.assertIs(is_log(net, value), False)
        for value in (None, "", [[]], ((),), {}, 0, False):
            self.assertIs(is_log(Net({}), value), False)

    def test_without_notes(self):
        for net in (Net({}), Net.read("a\nb < a"), Net.read("n x < n\na")):
            self.assertEqual([is_log(net, row) for row in ((), [], ((),), (("x",),))], [True, True, False, False])

    def test_what_is_passed_stays(self):
        row = [("x",), ("y",)]
        self.assertTrue(is_log(Net.read("a x\nb y"), row))
        self.assertEqual(row, [("x",), ("y",)])

    def test_much_longer_rows(self):
        self.assertFalse(is_log(Net.read("a x\nb x < a"), [("x",)] * 70))


class Numbers(unittest.TestCase):
    def test_the_long_way(self):
        several = 0
        for net, schedules, _ in small_nets():
            logs = logs_by_hand(net, schedules)
            self.assertEqual((logs_of(net), least_log(net)), (len(logs), logs[0]))
            self.assertIs(least_log(net).__class__, tuple)
            self.assertTrue(all(entry.__class__ is tuple for entry in least_log(net)))
            several += 1 < len(logs) < len(schedules)
        self.assertGreater(several, 30)

    def test_many_states(self):
        for text in MANY_STATES[:2]:
            net = Net.read(text)
            logs = logs_by_hand(net, schedules_of(net))
            self.assertEqual((logs_of(net), least_log(net)), (len(logs), logs[0]))

    def test_without_notes(self):
        for net in (Net({}), Net.read("a\nb < a"), Net.read("n x < n\na")):
            self.assertEqual((logs_of(net), least_log(net)), (1, ()))
            self.assertEqual((logs_of(net=net, most=3), least_log(net=net, most=3)), (1, ()))

    def test_equal_notes(self):
        self.assertEqual(logs_of(Net.read("a x\nb x\nc x\nd x < a|b")), 1)
        self.assertEqual(logs_of(Net.read("a x\nb x\nc x y\nd x < a|b")), 4)
        self.assertEqual(least_log(Net.read("a y\nb x y\nc x\nd x < a")), (("x",), ("x", "y"), ("y",), ("x",)))
        self.assertEqual(least_log(Net.read("a x\nb a < a\nc x\nd b < c")), (("x",), ("a",), ("x",), ("b",)))

    def test_very_many(self):
        self.assertEqual(logs_of(noted(wide((18, 18)), "n")), math.comb(36, 18))
        self.assertEqual(logs_of(Net({event: [] for event in "abcdefgh"}, {event: ["x"] for event in "abcd"})), 1)


class Parted(unittest.TestCase):
    def expected(self, one, other):
        unlike = set(logs_by_hand(*one)) ^ set(logs_by_hand(*other))
        return min(unlike, key=lambda row: (len(row), row)) if unlike else None

    def test_the_long_way(self):
        same = unlike = 0
        for one, other in two_nets():
            expected = self.expected(one, other)
            found = parted(one[0], other[0], most=2000)
            self.assertEqual((found, parted(other[0], one[0], most=2000)), (expected, expected))
            same += expected is None
            unlike += expected is not None and len(one[1]) > 1 and len(other[1]) > 1
        self.assertGreater(min(same, unlike), 60)

    def test_nets_with_one_need_less(self):
        parts = 0
        for seed in range(150):
            needs, notes = either_parts(seed) if seed % 2 else net_parts(seed)
            notes = {**{event: ["x"] for event in needs}, **notes}
            net = Net(needs, notes)
            for event in net.events:
                if net.needs(event):
                    other = Net({**needs, event: net.needs(event)[1:]}, notes)
                    pair = [(net, schedules_of(net, 150)), (other, schedules_of(other, 150))]
                    if None not in (pair[0][1], pair[1][1]):
                        expected = self.expected(*pair)
                        self.assertEqual(parted(net, other), expected)
                        self.assertEqual(parted(one=other, other=net, most=3000), expected)
                        parts += expected is not None
        self.assertGreater(parts, 50)

    def test_the_shortest_and_the_least(self):
        net = Net.read("a x\nb y < a\nc z")
        for text, expected in (("a x\nb y\nc z", "y x z"), ("a x\nb y < a\nc z < b", "x z y"), ("a x\nb y < a\nc z < a", "z x y"),
                               ("a a", "a"), ("a z", "z"), ("", ""), ("a x\nb y < a\nc z\nd z < c", "x y z"),
                               ("a x\nb y < a", "x y"), ("a z\nb z", "z z")):
            self.assertEqual(parted(net, Net.read(text)), tuple((note,) for note in expected.split()))
        self.assertIsNone(parted(net, Net.read("d x\nc z\nb y < d\na < b\nq < q")))
        self.assertEqual(parted(Net.read("a x\nb x"), Net.read("a x\nb x x")), (("x",), ("x",)))
        self.assertEqual(parted(Net.read("a x"), Net.read("a y")), (("x",),))

    def test_without_notes(self):
        self.assertIsNone(parted(Net({}), Net.read("a\nb\nc < c")))
        self.assertEqual(parted(Net({}), Net.read("a x")), ())


class Wide(unittest.TestCase):
    def check(self, least, call, *passed):
        """`least` is the least `most` that will do."""
        call(*passed, most=least)
        if least > 1:
            raised(TooWide, call, *passed, most=least - 1)

    def test_the_long_way(self):
        for net, schedules, cuts in small_nets():
            states = set(states_of(net, schedules).values())
            log = log_of(net, schedules[0])
            for value in (log, list(log), log[1:], None, "x"):
                self.check(len(cuts), is_log, net, value)
            for call in (logs_of, least_log):
                self.check(max(len(cuts), len(states)), call, net)

    def test_more_states_than_cuts(self):
        for text in MANY_STATES[:2]:
            net = Net.read(text)
            schedules, cuts = schedules_of(net), cuts_of(net)
            states = set(states_of(net, schedules).values())
            self.assertGreater(len(states), len(cuts))
            self.check(len(cuts), is_log, net, log_of(net, schedules[-1]))
            self.assertTrue(is_log(net, log_of(net, schedules[-1]), most=len(cuts)))
            for call in (logs_of, least_log):
                self.check(len(states), call, net)

    def test_pairs(self):
        more = 0
        for one, other in two_nets()[::2]:
            first, second = states_of(*one), states_of(*other)
            pairs = {(first.get(row), second.get(row)) for row in [*first, *second]}
            least = max(len(pairs), len(cuts_of(one[0])), len(cuts_of(other[0])))
            self.check(least, parted, one[0], other[0])
            more += least == len(pairs)
        self.assertGreater(more, 30)

    def test_pairs_where_a_short_log_parts(self):
        one, other = Net.read("a x"), noted(wide((1, 1, 1, 1)), "n")
        self.check(17, parted, one, other)
        self.check(17, parted, other, one)
        self.assertEqual(parted(one, other, most=17), (("x",),))

    def test_most_that_is_not_given(self):
        fits, more = noted(wide((4, 4, 3, 1, 1)), "n"), noted(wide((4, 4, 3, 1, 1), True), "n")
        self.assertEqual((len(cuts_of(fits)), len(cuts_of(more))), (400, 401))
        log = tuple(fits.notes(event) for event in fits.events)
        self.assertTrue(is_log(fits, log))
        self.assertEqual((logs_of(fits), least_log(fits)[0]), (logs_of(fits, most=5000), fits.notes("r0.0")))
        self.assertIsNone(parted(fits, fits))
        small = Net.read("a x")
        for call, passed in ((is_log, (more, log)), (is_log, (more, None)), (logs_of, (more,)), (least_log, (more,)),
                             (parted, (more, more)), (parted, (more, small)), (parted, (small, more))):
            raised(TooWide, call, *passed)
            call(*passed, most=500)

    def test_states_where_most_is_not_given(self):
        parts = [MANY_STATES[3], MANY_STATES[3], MANY_STATES[2], MANY_STATES[1]]
        row = "\n".join(["e0 x"] + ["e" + str(at) + " x < e" + str(at - 1) for at in range(1, 9)])
        fits = in_a_row([Net.read(text) for text in parts + [row]])
        more = in_a_row([Net.read(text) for text in parts + [row + "\ne9 y < e8"]])
        self.assertEqual((len(cuts_of(fits)), len(cuts_of(more))), (344, 345))
        for call in (logs_of, least_log):
            self.check(400, call, fits)
            self.assertEqual(call(fits), call(fits, most=400))
            self.check(401, call, more)
            raised(TooWide, call, more)
        self.assertTrue(is_log(more, least_log(more, most=401)))
        self.assertEqual(least_log(fits), least_log(more, most=401)[:-1])

    def test_pairs_where_most_is_not_given(self):
        one = noted(wide((5, 5, 5)), "n")
        fits, more = noted(wide((4, 36)), "m"), noted(wide((4, 36), True), "m")
        self.assertEqual(parted(one, fits), parted(one, fits, most=400))
        self.assertEqual(parted(one, fits), tuple(one.notes(event) for event in one.events))
        raised(TooWide, parted, one, more)
        raised(TooWide, parted, more, one)
        self.check(401, parted, one, more)

    def test_wide_nets(self):
        for name, net in wide_nets().items():
            calls = [(is_log, (net, ())), (logs_of, (net,)), (least_log, (net,)), (parted, (net, Net({}))),
                     (parted, (Net({}), net))]
            for call, passed in calls:
                if name == "row":
                    call(*passed)
                else:
                    raised(TooWide, call, *passed)

    def test_most_by_name_only(self):
        net = Net.read(TEXT)
        for call, passed in ((is_log, (net, ())), (logs_of, (net,)), (least_log, (net,)), (parted, (net, net))):
            raised(TypeError, call, *passed, 100)
            call(*passed, most=100)


if __name__ == "__main__":
    unittest.main()
