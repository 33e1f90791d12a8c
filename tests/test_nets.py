"""Points [2], [23] and [24]: nets, and what they tell."""

import unittest

from all_orders import cuts_of, schedules_of
from any_net import net_parts
from helper import Like, raised, read, strange_values
from lateyields.errors import Unknown
from lateyields.nets import Net


class Tells(unittest.TestCase):
    def setUp(self):
        self.net = Net({"c": [["b", "a", "b"], ("a",), ["a", "b"]], "a": [], "d.1/2": ([], ("c",)), "b": ()},
                       {"c": ["y", "x", "y"], "a": ("z",), "b": []})

    def test_events(self):
        self.assertEqual(self.net.events, ("a", "b", "c", "d.1/2"))
        self.assertIs(self.net.events.__class__, tuple)

    def test_needs(self):
        self.assertEqual([self.net.needs(event) for event in self.net.events],
                         [(), (), (("a",), ("a", "b")), ((), ("c",))])
        self.assertEqual(self.net.needs(event="c"), (("a",), ("a", "b")))

    def test_needs_ascend_as_tuples(self):
        net = Net({"a": [], "a.0": [], "b": [], "c": [["b"], ["a.0"], ["b", "a"], ["a"], []]})
        self.assertEqual(net.needs("c"), ((), ("a",), ("a", "b"), ("a.0",), ("b",)))

    def test_notes(self):
        self.assertEqual([self.net.notes(event) for event in self.net.events], [("z",), (), ("y", "x", "y"), ()])
        self.assertEqual(self.net.notes(event="a"), ("z",))

    def test_without_notes(self):
        for net in (Net({"a": [], "b": [["a"]]}), Net({"a": [], "b": [["a"]]}, None), Net({"a": [], "b": [["a"]]}, {}),
                    Net(needs={"a": [], "b": [["a"]]}, notes={"a": ()})):
            self.assertEqual((net.notes("a"), net.notes("b")), ((), ()))

    def test_length(self):
        self.assertEqual([len(self.net), len(Net({}))], [4, 0])

    def test_no_event(self):
        for net in (Net({}), Net({}, {}), Net.read("")):
            self.assertEqual((net.events, net.never, len(net), str(net)), ((), (), 0, ""))
            self.assertFalse("" in net)

    def test_an_event_that_needs_itself(self):
        net = Net({"a": [["a"]], "b": [["b", "c"]], "c": []})
        self.assertEqual((net.needs("a"), net.needs("b"), net.never), ((("a",),), (("b", "c"),), ("a",)))

    def test_sixty_events(self):
        events = ["e" + str(at) for at in range(60)]
        net = Net({event: [events[:at][-8:]] * 8 if at else [] for at, event in enumerate(events)})
        self.assertEqual((len(net), net.never), (60, ()))
        self.assertEqual(net.needs("e9"), (tuple(events[1:9]),))

    def test_more_events(self):
        events = ["e" + str(at) for at in range(200)]
        net = Net({event: [[one] for one in events[:at]] for at, event in enumerate(events)})
        self.assertEqual((len(net.needs("e199")), net.never), (199, ()))


class Contains(unittest.TestCase):
    def test_events(self):
        net = Net({"a": [], "b.0": [["a"]]})
        for value, expected in (("a", True), ("b.0", True), ("b", False), ("c", False), ("", False), ("a ", False)):
            self.assertIs(value in net, expected)

    def test_any_value(self):
        net = Net({"end": []})
        for value in strange_values("end") + [net, "ends"]:
            self.assertIs(value in net, False)
        self.assertIs("end" in net, True)


class UnknownEvents(unittest.TestCase):
    def test_needs_and_notes(self):
        net = Net({"end": [], "b": [["end"]]}, {"end": ["x"]})
        for method in (net.needs, net.notes):
            for value in strange_values("end") + ["c", "x", net]:
                error = raised(Unknown, method, value)
                self.assertIs(error.name.__class__, value.__class__)
                self.assertTrue(error.name == value)

    def test_in_needs(self):
        self.assertEqual(raised(Unknown, Net, {"a": [["b"]]}).name, "b")
        self.assertEqual(raised(Unknown, Net, {"a": [["z"], ["a", "y"]], "b": [("x", "zz")]}).name, "x")

    def test_in_notes(self):
        self.assertEqual(raised(Unknown, Net, {"a": []}, {"b": ["x"]}).name, "b")
        self.assertEqual(raised(Unknown, Net, {"a": []}, {"c": [], "b": [], "a": []}).name, "b")
        self.assertEqual(raised(Unknown, Net, {}, {"a": []}).name, "a")

    def test_the_least_of_both(self):
        self.assertEqual(raised(Unknown, Net, {"a": [["c"]]}, {"b": ["x"]}).name, "b")
        self.assertEqual(raised(Unknown, Net, needs={"a": [["b"]]}, notes={"c": ["x"]}).name, "b")
        self.assertEqual(raised(Unknown, Net, {"a": [["a.10"], ["a.9"]]}).name, "a.10")

    def test_values_of_other_kinds(self):
        for value in strange_values("a"):
            error = raised(Unknown, Net, {"a": [["a", value]]})
            self.assertTrue(error.name == value)
        for value in (None, 0, ("a",), Like("b")):
            self.assertTrue(raised(Unknown, Net, {"a": []}, {value: []}).name == value)


class Never(unittest.TestCase):
    def check(self, needs, *never):
        self.assertEqual(Net(needs).never, never)

    def test_all_come(self):
        self.check({"a": [], "b": [["a"]], "c": [["a", "b"], ["b"]]})

    def test_a_ring(self):
        self.check({"a": [["b"]], "b": [["c"]], "c": [["a"]], "d": []}, "a", "b", "c")

    def test_a_ring_that_can_be_entered(self):
        self.check({"a": [["b"]], "b": [["c", "d"]], "c": [["a"]], "d": []})

    def test_an_empty_need(self):
        self.check({"a": [[]], "b": [["a"]], "c": [["a", "d"]], "d": [], "e": [["d"], ()]}, "a", "b", "e")

    def test_a_need_met_by_several(self):
        self.check({"a": [], "b": [[]], "c": [["a", "b"]], "d": [["a"], ["b"]], "e": [["c", "d"]]}, "b", "d")

    def test_events_of_a_program_come(self):
        self.assertEqual(Net.of(read("job main; wait g; end; job b; end")).never, ())


class Equal(unittest.TestCase):
    def test_equal(self):
        one = Net({"a": [], "b": [["a"], ["a", "b"]]}, {"a": ["x"]})
        other = Net({"b": (("b", "a", "a"), ("a",), ("a",)), "a": ()}, {"b": (), "a": ("x",)})
        self.assertTrue(one == other)
        self.assertFalse(one != other)
        self.assertTrue(one == one)
        self.assertTrue(Net.read(str(one)) == other)

    def test_unlike(self):
        net = Net({"a": [], "b": [["a"]]}, {"a": ["x", "y"]})
        for other in (Net({"a": [], "b": [["a"]]}), Net({"a": [], "b": []}, {"a": ["x", "y"]}),
                      Net({"a": [], "b": [["a"]]}, {"a": ["y", "x"]}), Net({"a": [], "b": [["b"]]}, {"a": ["x", "y"]}),
                      Net({"a": [], "b": [["a"]], "c": []}, {"a": ["x", "y"]}), Net({}), Net({"a": []}),
                      Net({"a": [], "b": [["a"], []]}, {"a": ["x", "y"]}),
                      Net({"a": [], "b": [["a"]]}, {"b": ["x", "y"]}), Net({"a": [], "c": [["a"]]}, {"a": ["x", "y"]})):
            self.assertFalse(net == other)
            self.assertTrue(net != other)

    def test_equal_to_nothing_else(self):
        net = Net({"a": []})
        for other in (str(net), net.events, {"a": []}, None, 1, True, ["a"], object(), read("job main; end")):
            self.assertFalse(net == other)
            self.assertTrue(net != other)


class NewValues(unittest.TestCase):
    def test_what_is_passed_is_not_changed_or_kept(self):
        inner, needs, notes = ["b", "a"], {}, {}
        needs.update({"b": [], "a": [], "c": [inner, ["b"]]})
        notes.update({"c": ["y", "x"]})
        net = Net(needs, notes)
        self.assertEqual((needs, notes), ({"b": [], "a": [], "c": [["b", "a"], ["b"]]}, {"c": ["y", "x"]}))
        self.assertEqual(list(needs), ["b", "a", "c"])
        text, told = str(net), (net.events, net.needs("c"), net.notes("c"), net.never)
        inner.append("c")
        needs["c"].append([])
        needs["d"] = []
        notes["c"].append("z")
        notes["a"] = ["x"]
        self.assertEqual((str(net), (net.events, net.needs("c"), net.notes("c"), net.never)), (text, told))

    def test_equal_at_each_call(self):
        net = Net({"a": [], "b": [["a"]]}, {"b": ["x"]})
        for tell in (lambda: net.needs("b"), lambda: net.notes("b"), lambda: str(net), lambda: len(net)):
            self.assertEqual(tell(), tell())
        self.assertIs(net.needs("b").__class__, tuple)
        self.assertIs(net.needs("b")[0].__class__, tuple)
        self.assertIs(net.notes("b").__class__, tuple)


class ByChance(unittest.TestCase):
    def test_schedules(self):
        for seed in range(400):
            net = Net(*net_parts(seed))
            schedules = schedules_of(net, 2000)
            if schedules is None:
                continue
            comes = tuple([event for event in net.events if event not in net.never])
            for schedule in schedules:
                self.assertEqual(tuple(sorted(schedule)), comes)

    def test_never(self):
        for seed in range(1000):
            net = Net(*net_parts(seed))
            greatest = max(cuts_of(net), key=len)
            self.assertEqual(net.never, tuple([event for event in net.events if event not in greatest]))

    def test_needs_and_notes(self):
        for seed in range(200):
            needs, notes = net_parts(seed)
            net = Net(needs, notes)
            self.assertEqual(net.events, tuple(sorted(needs)))
            for event in needs:
                self.assertEqual(net.needs(event), tuple(sorted({tuple(sorted(set(need))) for need in needs[event]})))
                self.assertEqual(net.notes(event), tuple(notes.get(event, ())))
