"""Points [33] and [34]: ways and blockers, found the long way too, and nets that are too wide."""

import itertools
import unittest

from all_orders import blockers_of, least_of, ways_of
from helper import raised, strange_values
from lateyields.errors import Never, TooWide, Unknown
from lateyields.nets import Net
from lateyields.ways import blockers, earliest, unlike_ways, ways
from some_nets import TEXT, WAYS, small_nets, wide, wide_nets


class Ways(unittest.TestCase):
    def test_the_long_way(self):
        several = 0
        for net, _, cuts in small_nets():
            for event in net.events:
                found = ways(net, event)
                self.assertEqual(found, ways_of(event, cuts))
                self.assertEqual(found == [], event in net.never)
                several += len(found) > 1
        self.assertGreater(several, 60)

    def test_some(self):
        net = Net.read("a\nb\nc < a|b\nd < a c\ne < c\nf < d|e b|d\nn < n\nm < n|a")
        for event, rows in (("a", ["a"]), ("c", ["a c", "b c"]), ("d", ["a c d"]), ("e", ["a c e", "b c e"]),
                            ("f", ["a c d f", "b c e f"]), ("n", []), ("m", ["a m"])):
            found = ways(net, event)
            self.assertEqual(found, [tuple(row.split()) for row in rows])
            self.assertIs(found.__class__, list)
            self.assertTrue(all(row.__class__ is tuple for row in found))

    def test_short_ones_first(self):
        net = Net.read("a\nb\nc\nd\nz < a b c|d|y\ny < a")
        self.assertEqual(ways(net, "z"), [("a", "b", "c", "z"), ("a", "b", "d", "z"), ("a", "b", "y", "z")])
        net = Net.read("a\nb < a\nc\nd < b|c")
        self.assertEqual(ways(net, "d"), [("c", "d"), ("a", "b", "d")])
        net = Net.read("a\na.0\nb\nc < a|a.0|b b|a")
        self.assertEqual(ways(net, "c"), [("a", "c"), ("b", "c")])

    def test_new_lists(self):
        net = Net.read(WAYS)
        for call in (ways, blockers):
            first = call(net, "e")
            first.append(0)
            self.assertEqual(call(net, "e"), first[:-1])


class Blockers(unittest.TestCase):
    def test_the_long_way(self):
        several = 0
        for net, _, cuts in small_nets():
            for event in net.events:
                found = blockers(net, event)
                self.assertEqual(found, blockers_of(net, event, cuts))
                several += len(found) > 1
        self.assertGreater(several, 50)

    def test_some(self):
        net = Net.read("a\nb\nc < a|b\nd < a c\ne < c\nf < d|e b|d\nn < n\nm < n|a")
        for event, rows in (("a", []), ("c", ["a b"]), ("d", ["a", "c"]), ("e", ["c", "a b"]),
                            ("f", ["c", "a b", "a e", "b d", "d e"]), ("m", ["a"])):
            found = blockers(net, event)
            self.assertEqual(found, [tuple(row.split()) for row in rows])
            self.assertIs(found.__class__, list)
            self.assertTrue(all(row.__class__ is tuple for row in found))

    def test_what_never_comes(self):
        for net, _, _ in small_nets():
            for event in net.never:
                self.assertEqual((ways(net, event), blockers(net, event)), ([], [()]))
        net = Net.read("a < a\nb < -\nc < a|b")
        for event in net.events:
            self.assertEqual((ways(net, event), blockers(net, event)), ([], [()]))

    def test_what_comes_whatever_is_left_out(self):
        for net in (Net.read(TEXT), Net.read(WAYS), wide((3, 1, 1))):
            for event in net.events:
                alone = net.needs(event) == ()
                self.assertEqual(blockers(net, event) == [], alone)
                self.assertEqual(ways(net, event) == [(event,)], alone)

    def test_each_has_an_event_in_common_with_each_way(self):
        for net, _, _ in small_nets():
            for event in net.events:
                rows, sets = ways(net, event), blockers(net, event)
                for one in sets:
                    self.assertNotIn(event, one)
                    for row in rows:
                        self.assertTrue(set(one) & set(row))

    def test_ways_are_the_least_sets_that_meet_each_blocker(self):
        for net, _, _ in small_nets():
            for event in net.events:
                others = [one for one in net.events if one != event]
                sets = [frozenset(row) for many in range(len(others) + 1)
                        for row in itertools.combinations(others, many)]
                rows = [set(row) - {event} for row in ways(net, event)]
                kept = [set(row) for row in blockers(net, event)]
                self.assertEqual(least_of([one for one in sets if all(one & row for row in rows)]),
                                 blockers(net, event))
                self.assertEqual(least_of([one for one in sets if all(one & row for row in kept)]),
                                 least_of([frozenset(row) for row in rows]))

    def test_many(self):
        names = ["e" + str(at) for at in range(8)]
        net = Net({**{name: [] for name in names}, "z": [names[at:at + 2] for at in range(0, 8, 2)]})
        self.assertEqual(ways(net, "z")[0], ("e0", "e2", "e4", "e6", "z"))
        self.assertEqual((len(ways(net, "z")), len(blockers(net, "z"))), (16, 4))
        net = Net({**{name: [] for name in names}, "y0": [names[:1], names[1:2]], "y1": [names[2:3], names[3:4]],
                   "y2": [names[4:5], names[5:6]], "z": [["y0", "y1", "y2"]]})
        self.assertEqual(ways(net, "z"), [("e0", "e1", "y0", "z"), ("e2", "e3", "y1", "z"), ("e4", "e5", "y2", "z")])
        self.assertEqual(len(blockers(net, "z")), 27)
        self.assertEqual(blockers(net, "z")[:2], [("e0", "e2", "e4"), ("e0", "e2", "e5")])


class Earliest(unittest.TestCase):
    def test_all_schedules(self):
        for net, schedules, _ in small_nets():
            for event in net.events:
                if event not in net.never:
                    self.assertEqual(earliest(net, event), min(row.index(event) for row in schedules))

    def test_never(self):
        net = Net.read(TEXT)
        self.assertEqual(raised(Never, earliest, net, "n").event, "n")
        self.assertEqual(raised(Never, earliest, net, "o").event, "o")


class UnlikeWays(unittest.TestCase):
    def test_the_long_way(self):
        found = []
        for net, _, cuts in small_nets():
            several = [event for event in net.events if len(ways_of(event, cuts)) > 1]
            expected = several[0] if several else None
            self.assertEqual(unlike_ways(net), expected)
            closed = all(one & other in cuts for one in cuts for other in cuts)
            self.assertEqual(expected is None, closed)
            found.append(expected)
        self.assertGreater(len(set(found)), 4)
        self.assertGreater(found.count(None), 10)

    def test_the_least_one(self):
        self.assertEqual(unlike_ways(Net.read("z\ny\nd < z|y\nc < d\ne < z y")), "c")
        self.assertIsNone(unlike_ways(Net.read("a\nb\nc < a b\nn < n|o a\no < n\nd < n|a")))
        self.assertIsNone(unlike_ways(Net({})))


class Refused(unittest.TestCase):
    def test_what_is_no_event(self):
        net = Net.read(TEXT)
        for call in (ways, blockers, earliest):
            for value in strange_values("a") + ["z"]:
                name = raised(Unknown, call, net, value).name
                self.assertTrue(name is value or (name.__class__, name) == (value.__class__, value))
                raised(Unknown, call, net, value, most=1)
            raised(Unknown, call, wide_nets()["loose"], "z")

    def test_names(self):
        net = Net.read(WAYS)
        self.assertEqual(ways(net=net, event="c", most=50), [("a", "c"), ("b", "c")])
        self.assertEqual(blockers(net=net, event="c", most=50), [("a", "b")])
        self.assertEqual(earliest(net=net, event="c", most=50), 1)
        self.assertEqual(unlike_ways(net=net, most=50), "c")
        for call in (ways, blockers, earliest):
            raised(TypeError, call, net, "c", 50)
        raised(TypeError, unlike_ways, net, 50)


class Wide(unittest.TestCase):
    def calls(self, net, event):
        return [(ways, (net, event)), (blockers, (net, event)), (earliest, (net, event)), (unlike_ways, (net,))]

    def test_most(self):
        for net, _, cuts in small_nets():
            for event in net.events[:2]:
                for call, passed in self.calls(net, event):
                    if call is earliest and event in net.never:
                        continue
                    self.assertEqual(call(*passed, most=len(cuts)), call(*passed))
                    if len(cuts) > 1:
                        raised(TooWide, call, *passed, most=len(cuts) - 1)
                        raised(TooWide, call, *passed, most=1)

    def test_no_event(self):
        self.assertIsNone(unlike_ways(Net({}), most=1))
        self.assertIsNone(unlike_ways(Net.read("n < n"), most=1))
        self.assertEqual((ways(Net.read("n < n"), "n", most=1), blockers(Net.read("n < n"), "n", most=1)), ([], [()]))

    def test_most_that_is_not_given(self):
        fits, more = wide((4, 4, 4, 1, 1, 1, 1, 1)), wide((4, 4, 4, 1, 1, 1, 1, 1), True)
        for call, passed in self.calls(fits, "r0.3"):
            self.assertEqual(call(*passed), call(*passed, most=5000))
        for call, passed in self.calls(more, "r0.3"):
            raised(TooWide, call, *passed)
            raised(TooWide, call, *passed, most=4000)
            call(*passed, most=4001)
        self.assertEqual(ways(fits, "r0.3"), [("r0.0", "r0.1", "r0.2", "r0.3")])
        self.assertEqual(blockers(more, "z", most=4001)[0], ("r0.0",))
        self.assertEqual((earliest(fits, "r0.3"), earliest(more, "z", most=4001)), (3, 17))

    def test_wide_nets(self):
        for name, net in wide_nets().items():
            for call, passed in self.calls(net, "e0"):
                if name in ("row", "many"):
                    call(*passed)
                else:
                    raised(TooWide, call, *passed)

    def test_behind_unknown_and_never(self):
        net = Net({**{"e" + str(at): [] for at in range(14)}, "n": [["n"]]})
        for call in (ways, blockers):
            self.assertEqual(raised(Unknown, call, net, "z").name, "z")
            raised(TooWide, call, net, "n")
            raised(TooWide, call, net, "e0")
        self.assertEqual(raised(Unknown, earliest, net, "z").name, "z")
        self.assertEqual(raised(Never, earliest, net, "n").event, "n")
        self.assertEqual(raised(Never, earliest, net, "n", most=1).event, "n")
        raised(TooWide, earliest, net, "e0")


if __name__ == "__main__":
    unittest.main()
