"""Points [34], [35] and [36]: numbers of cuts and schedules, schedules by their index, and greatest cuts."""

import itertools
import math
import random
import unittest

from all_orders import ready_of
from helper import raised, strange_values
from lateyields.counts import ahead_of, cuts_of, greatest, index_of, places_of, schedule_at, schedules_of
from lateyields.cuts import Cut
from lateyields.errors import Never, NoSchedule, TooWide, Unknown
from lateyields.nets import Net
from some_nets import TEXT, WAYS, small_nets, wide, wide_nets

STRANGE = [-1, -2, True, False, None, 1.0, 0.0, "0", "", (), (0,), [0], {0: 0}, b"0", object(), -10 ** 30, 10 ** 5000]


def coming(net):
    return [event for event in net.events if event not in net.never]


class Numbers(unittest.TestCase):
    def test_the_long_way(self):
        for net, schedules, cuts in small_nets():
            self.assertEqual((cuts_of(net), schedules_of(net)), (len(cuts), len(schedules)))
            self.assertEqual((cuts_of(net).__class__, schedules_of(net).__class__), (int, int))

    def test_no_events(self):
        for net in (Net({}), Net.read("n < n")):
            self.assertEqual((cuts_of(net), schedules_of(net), schedule_at(net, 0), index_of(net, ())), (1, 1, (), 0))

    def test_very_many_schedules(self):
        self.assertEqual(schedules_of(wide((10, 10, 10))), math.factorial(30) // math.factorial(10) ** 3)
        self.assertEqual((cuts_of(wide((10, 10, 10))), cuts_of(wide((30, 30)))), (1331, 961))
        self.assertEqual(schedules_of(wide((30, 30))), math.comb(60, 30))
        self.assertEqual(schedules_of(wide((1,) * 11)), math.factorial(11))
        self.assertEqual((schedules_of(wide_nets()["row"]), cuts_of(wide_nets()["row"])), (1, 61))

    def test_names(self):
        net = Net.read(WAYS)
        self.assertEqual(cuts_of(net=net, most=27), 27)
        self.assertEqual(schedules_of(net=net, most=27), 60)


class At(unittest.TestCase):
    def test_each_index(self):
        for net, schedules, _ in small_nets():
            for number, row in enumerate(schedules):
                found = schedule_at(net, number)
                self.assertEqual((found, found.__class__), (row, tuple))
                self.assertEqual((index_of(net, row), index_of(net, list(row))), (number, number))

    def test_no_index(self):
        for net, schedules, _ in small_nets()[:30]:
            for value in STRANGE + [len(schedules), len(schedules) + 1]:
                at = raised(NoSchedule, schedule_at, net, value).at
                self.assertEqual((at, at.__class__), (value, value.__class__))

    def test_a_list_is_copied(self):
        value = [["a"]]
        at = raised(NoSchedule, schedule_at, Net({}), value).at
        value[0].append("b")
        self.assertEqual(at, [["a"]])

    def test_very_many(self):
        chance = random.Random(1)
        for net in (wide((30, 30)), wide((10, 10, 10), True), wide((1,) * 11), wide((9, 3, 2, 2), True)):
            many = schedules_of(net)
            for number in [0, 1, many - 2, many - 1] + [chance.randrange(many) for _ in range(10)]:
                row = schedule_at(net, number)
                self.assertEqual(sorted(row), list(net.events))
                for at, event in enumerate(row):
                    self.assertIn(event, ready_of(net, row[:at]))
                self.assertEqual(index_of(net, row), number)
            raised(NoSchedule, schedule_at, net, many)

    def test_ascending(self):
        net = wide((6, 5, 4))
        numbers = range(0, schedules_of(net), 5003)
        rows = [schedule_at(net, number) for number in numbers]
        self.assertEqual(rows, sorted(rows))
        self.assertEqual(len(set(rows)), len(numbers))

    def test_names(self):
        net = Net.read(WAYS)
        row = schedule_at(net=net, number=59, most=27)
        self.assertEqual(index_of(net=net, schedule=row, most=27), 59)


class IndexOf(unittest.TestCase):
    def test_refused(self):
        net = Net.read("a\nb\nc < a|b\nd < c a\nn < n")
        for row, at in (("c a b d", 0), ("a d b c", 1), ("b c d a", 2), ("a b d c", 2), ("n a b c d", 0),
                        ("a b c n d", 3), ("a a b c d", 1), ("a b c d d", 4), ("a b c d n", 4), ("a b c d z", 4),
                        ("", 0), ("a", 1), ("a b", 2), ("a b c", 3), ("z", 0), ("a z", 1)):
            for value in (row.split(), tuple(row.split())):
                found = raised(NoSchedule, index_of, net, value).at
                self.assertEqual((found, found.__class__), (at, int))
        for value in strange_values("a"):
            self.assertEqual(raised(NoSchedule, index_of, net, [value, "b", "c", "d"]).at, 0)
            self.assertEqual(raised(NoSchedule, index_of, net, ["b", value]).at, 1)
            self.assertEqual(raised(NoSchedule, index_of, net, ["a", "b", "c", "d", value]).at, 4)

    def test_what_is_passed_stays(self):
        row = ["b", "a"]
        self.assertEqual((index_of(Net({"a": [], "b": []}), row), row), (1, ["b", "a"]))


class Ahead(unittest.TestCase):
    def test_the_long_way(self):
        for net, schedules, _ in small_nets():
            for one, other in itertools.product(coming(net), repeat=2):
                many = sum(row.index(one) < row.index(other) for row in schedules)
                self.assertEqual(ahead_of(net, one, other), many)

    def test_equal_events(self):
        for net in (Net.read(TEXT), Net.read(WAYS), wide((30, 30))):
            for event in coming(net):
                self.assertEqual(ahead_of(net, event, event), 0)

    def test_very_many(self):
        net = wide((30, 30))
        self.assertEqual(ahead_of(net, "r0.0", "r1.0"), math.comb(60, 30) // 2)
        self.assertEqual(ahead_of(net=net, one="r0.0", other="r0.1", most=961), math.comb(60, 30))
        self.assertEqual(ahead_of(net, "r0.1", "r0.0"), 0)
        self.assertEqual(ahead_of(net, "r0.29", "r1.0"), 1)


class Places(unittest.TestCase):
    def test_the_long_way(self):
        for net, schedules, _ in small_nets():
            for event in coming(net):
                found = places_of(net, event)
                many = len(schedules[0])
                self.assertEqual(found, [sum(row[at] == event for row in schedules) for at in range(many)])
                self.assertIs(found.__class__, list)

    def test_new_lists(self):
        net = Net.read(WAYS)
        places_of(net, "a").append(0)
        self.assertEqual(len(places_of(net, "a")), 7)

    def test_very_many(self):
        net = wide((30, 30))
        found = places_of(net=net, event="r1.0", most=961)
        self.assertEqual(found, [math.comb(59 - at, 29) if at <= 30 else 0 for at in range(60)])
        self.assertEqual(sum(found), math.comb(60, 30))


class Greatest(unittest.TestCase):
    def check(self, net, cuts, weights):
        found = greatest(net, weights)
        self.assertIs(found.__class__, Cut)
        self.assertTrue(found.net == net)
        self.assertIn(set(found.events), cuts)
        best = max(sum(weights.get(event, 0) for event in cut) for cut in cuts)
        self.assertEqual(sum(weights.get(event, 0) for event in found.events), best)

    def test_the_long_way(self):
        chance = random.Random(2)
        for net, _, cuts in small_nets():
            for _ in range(8):
                events = [event for event in net.events if chance.random() < 0.8]
                most = chance.choice((1, 3, 1000))
                self.check(net, cuts, {event: chance.randint(-most, most) for event in events})

    def test_some(self):
        net = Net.read(TEXT)
        for weights, events in (({}, None), ({"a": 1}, None), ({"a": -1, "c": 2}, {"a", "c"}), ({"n": 5, "a": -1}, None),
                                ({"n": 5}, None), ({"b": -4, "e": 3, "a": -1}, None), ({"b": -1, "e": 3}, None)):
            self.check(net, [set(cut) for cut in small_nets()[0][2]], weights)
            if events is not None:
                self.assertLessEqual(events, set(greatest(net, weights).events))
        self.assertEqual(greatest(net, {event: -1 for event in net.events}).events, ())
        self.assertEqual(greatest(net, {event: 1 for event in net.events}).events, Cut.full(net).events)
        self.assertEqual(greatest(Net({}), {}).events, ())

    def test_what_is_passed_stays(self):
        weights = {"a": 3, "b": -2}
        cut = greatest(net=Net.read(WAYS), weights=weights, most=27)
        self.assertEqual((weights, "a" in cut, "b" in cut), ({"a": 3, "b": -2}, True, False))
        weights["a"] = -9
        self.assertIn("a", cut)

    def test_no_events(self):
        net = Net.read(TEXT)
        for weights, name in (({"z": 1}, "z"), ({"y": 1, "a": 2, "z": 1}, "y"), ({"z": 0, "q": 0}, "q"),
                              ({"z": 1, "": 1}, ""), ({"A": 1, "a ": 1}, "A"), ({"z": 1, "b b": 1, "a": 1}, "b b")):
            self.assertEqual(raised(Unknown, greatest, net, weights).name, name)
            self.assertEqual(raised(Unknown, greatest, net, weights, most=1).name, name)
        for value in (None, 0, True, ("a",), b"a", frozenset("a"), 1.5):
            name = raised(Unknown, greatest, net, {"a": 1, value: 1}).name
            self.assertEqual((name, name.__class__), (value, value.__class__))


class Refused(unittest.TestCase):
    def test_what_is_no_event(self):
        net = Net.read(TEXT)
        for value in strange_values("a") + ["z"]:
            for call, passed in ((places_of, (value,)), (ahead_of, (value, "a")), (ahead_of, ("a", value)),
                                 (ahead_of, (value, "n")), (ahead_of, ("n", value))):
                name = raised(Unknown, call, net, *passed).name
                self.assertTrue(name is value or (name.__class__, name) == (value.__class__, value))
        self.assertEqual(raised(Unknown, ahead_of, net, "y", "z").name, "y")
        self.assertEqual(raised(Unknown, ahead_of, Net({}), "a", "a").name, "a")

    def test_what_never_comes(self):
        net = Net.read(TEXT)
        self.assertEqual(raised(Never, places_of, net, "n").event, "n")
        for one, other, event in (("n", "a", "n"), ("a", "o", "o"), ("o", "n", "o"), ("n", "o", "n"), ("n", "n", "n")):
            self.assertEqual(raised(Never, ahead_of, net, one, other).event, event)

    def test_most_by_name_only(self):
        net = Net.read("a\nb")
        for call, passed in ((cuts_of, ()), (schedules_of, ()), (schedule_at, (0,)), (index_of, (("a", "b"),)),
                             (ahead_of, ("a", "b")), (places_of, ("a",)), (greatest, ({},))):
            raised(TypeError, call, net, *passed, 100)
            call(net, *passed, most=100)


class Wide(unittest.TestCase):
    def calls(self, net, event, row):
        return [(cuts_of, (net,)), (schedules_of, (net,)), (schedule_at, (net, 0)), (index_of, (net, row)),
                (ahead_of, (net, event, event)), (places_of, (net, event)), (greatest, (net, {event: 1}))]

    def test_most(self):
        for net, schedules, cuts in small_nets():
            if len(cuts) == 1:
                continue
            for call, passed in self.calls(net, coming(net)[0], schedules[-1]):
                self.assertEqual(call(*passed, most=len(cuts)), call(*passed))
                raised(TooWide, call, *passed, most=len(cuts) - 1)
                raised(TooWide, call, *passed, most=1)

    def test_one_cut(self):
        net = Net.read("n < n")
        for call, passed in self.calls(net, "n", ())[:4] + [(greatest, (net, {"n": 1}))]:
            call(*passed, most=1)

    def test_most_that_is_not_given(self):
        fits, more = wide((4, 4, 4, 1, 1, 1, 1, 1)), wide((4, 4, 4, 1, 1, 1, 1, 1), True)
        self.assertEqual((cuts_of(fits), cuts_of(more, most=4001)), (4000, 4001))
        row = schedule_at(fits, 0)
        for call, passed in self.calls(fits, "r0.3", row):
            call(*passed)
            raised(TooWide, call, *passed, most=3999)
        for call, passed in self.calls(more, "r0.3", row + ("z",)):
            raised(TooWide, call, *passed)
            call(*passed, most=4001)

    def test_wide_nets(self):
        for name, net in wide_nets().items():
            if name in ("row", "many"):
                continue
            for call, passed in self.calls(net, "e0", ()):
                raised(TooWide, call, *passed)
                raised(TooWide, call, *passed, most=5000)

    def test_behind_unknown_and_never(self):
        net = Net({**{"e" + str(at): [] for at in range(14)}, "n": [["n"]]})
        for call, passed in ((ahead_of, ("e0", "z")), (ahead_of, ("z", "n")), (places_of, ("z",)),
                             (greatest, ({"z": 1},))):
            self.assertEqual(raised(Unknown, call, net, *passed).name, "z")
        for call, passed in ((ahead_of, ("e0", "n")), (ahead_of, ("n", "e0")), (places_of, ("n",))):
            self.assertEqual(raised(Never, call, net, *passed).event, "n")

    def test_ahead_of_no_schedule(self):
        net = wide((1,) * 14)
        for value in STRANGE + [10 ** 40]:
            raised(TooWide, schedule_at, net, value)
        for row in ((), ("z",), net.events[:3]):
            raised(TooWide, index_of, net, row)
            raised(TooWide, index_of, Net.read(WAYS), row, most=26)


if __name__ == "__main__":
    unittest.main()
