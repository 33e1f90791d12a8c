"""Points [39] and [40]: nets that are made of other nets."""

import itertools
import math
import unittest

from all_orders import cuts_of, schedules_of, ways_of
from helper import raised, read, strange_values
from lateyields.counts import schedules_of as number_of_schedules
from lateyields.errors import BadRow, Taken, Unknown
from lateyields.joins import behind, beside, loosened, renamed
from lateyields.nets import Net
from lateyields.ways import blockers, ways
from some_nets import TEXT, WAYS, small_nets, wide, wide_nets


def parts_of(net):
    """The needs and the notes of a net."""
    return {event: net.needs(event) for event in net.events}, {event: net.notes(event) for event in net.events}


def some_pairs():
    """Pairs of nets without common events, with few schedules each."""
    rows = [row for row in small_nets() if len(row[1]) <= 12 and len(row[0]) <= 5]
    return [(rows[at], all_renamed(*rows[at + 1])) for at in range(0, len(rows) - 1, 2)]


def all_renamed(net, schedules, cuts):
    return renamed(net, "q"), [tuple("q" + event for event in row) for row in schedules], cuts


class Beside(unittest.TestCase):
    def test_the_needs_and_notes_of_both(self):
        net = beside(Net.read("b x\na\nc < a|b\nn < n"), Net.read("e y z\nd < e\nm < -"))
        self.assertEqual(str(net), "a\nb x\nc < a|b\nd < e\ne y z\nm < -\nn < n")
        self.assertEqual((net.__class__, net.never), (Net, ("m", "n")))
        self.assertTrue(net == beside(one=Net.read("e y z\nd < e\nm < -"), other=Net.read("b x\na\nc < a|b\nn < n")))

    def test_no_events(self):
        net = Net.read(TEXT)
        for made in (beside(net, Net({})), beside(Net({}), net), behind(net, Net({})), behind(Net({}), net)):
            self.assertTrue(made == net)
        self.assertTrue(beside(Net({}), Net({})) == Net({}))

    def test_schedules_cuts_and_ways(self):
        compared = 0
        for (one, first, cuts), (other, second, more) in some_pairs():
            net = beside(one, other)
            many = len(first) * len(second) * math.comb(len(first[0]) + len(second[0]), len(first[0]))
            found = schedules_of(net, 3000) if many < 1500 else None
            self.assertEqual(number_of_schedules(net), many)
            self.assertEqual(len(cuts_of(net)), len(cuts) * len(more))
            for event in one.events:
                self.assertEqual((ways(net, event), blockers(net, event)), (ways(one, event), blockers(one, event)))
                self.assertEqual(ways(net, event), ways_of(event, cuts))
            for event in other.events:
                self.assertEqual((ways(net, event), blockers(net, event)), (ways(other, event), blockers(other, event)))
            if found is not None:
                self.assertEqual(len(found), many)
                for row in found:
                    self.assertIn(tuple(event for event in row if event in one), first)
                    self.assertIn(tuple(event for event in row if event in other), second)
                compared += 1
        self.assertGreater(compared, 10)


class Behind(unittest.TestCase):
    def test_each_event_needs_what_comes_of_the_first(self):
        net = behind(Net.read("b x\na\nc < a|b\nn < n"), Net.read("e y z\nd < e\nm < -"))
        self.assertEqual(str(net), "a\nb x\nc < a|b\nd < a b c e\ne y z < a b c\nm < - a b c\nn < n")
        other = behind(one=Net.read("z < -\ny"), other=Net.read("x\na < x|a"))
        self.assertEqual(str(other), "a < a|x y\nx < y\ny\nz < -")

    def test_what_never_comes_is_not_needed(self):
        net = behind(Net.read("n < n"), Net.read("a\nb < a"))
        self.assertEqual(str(net), "a\nb < a\nn < n")

    def test_schedules(self):
        for (one, first, cuts), (other, second, more) in some_pairs():
            net = behind(one, other)
            self.assertEqual(schedules_of(net), sorted(ahead + later for ahead in first for later in second))
            self.assertEqual(len(cuts_of(net)), len(cuts) + len(more) - 1)
            self.assertEqual(net.never, tuple(sorted(one.never + other.never)))

    def test_wide(self):
        net = behind(wide_nets()["loose"], renamed(wide_nets()["row"], "q"))
        self.assertEqual((len(net), len(net.needs("qe0")), len(net.needs("qe1")), net.never), (120, 60, 61, ()))
        self.assertEqual(len(beside(wide_nets()["loose"], renamed(wide_nets()["row"], "q"))), 120)
        self.assertTrue(Net.read(str(net)) == net)


class Both(unittest.TestCase):
    def test_taken(self):
        for call in (beside, behind):
            for one, other, name in (("a", "a x", "a"), ("b\na\nc", "c\nb\nd", "b"), ("z\ny", "y\nx\nz", "y"),
                                     ("n < n", "n", "n"), ("a.0\nb", "b\na.0", "a.0")):
                self.assertEqual(raised(Taken, call, Net.read(one), Net.read(other)).name, name)
                self.assertEqual(raised(Taken, call, Net.read(other), Net.read(one)).name, name)
            net = Net.read(WAYS)
            self.assertEqual(raised(Taken, call, net, net).name, "a")

    def test_the_nets_stay(self):
        one, other = Net.read(TEXT), renamed(Net.read(WAYS), "q")
        before = str(one), str(other)
        for made in (beside(one, other), behind(one, other), renamed(one, "z"), loosened(one, "e", 1)):
            self.assertEqual((str(one), str(other)), before)
            self.assertIsNot(made, one)
        self.assertTrue(one == Net.read(TEXT))

    def test_nets_of_programs(self):
        one, other = Net.of(read("job main; say a; pause; end")), renamed(Net.of(read("job main; say b; end")), "q")
        self.assertEqual(str(behind(one, other)), "end < main.0 main.1\nmain.0 a\nmain.1 < main.0\n"
                         "qend < end main.0 main.1 qmain.0\nqmain.0 b < end main.0 main.1")
        self.assertEqual(number_of_schedules(beside(one, other)), 10)


class Renamed(unittest.TestCase):
    def test_all_names(self):
        self.assertEqual(str(renamed(Net.read("a x\nb.0\nc/1.2 y < a|b.0 a\nn < - n"), "zz")),
                         "zza x\nzzb.0\nzzc/1.2 y < zza zza|zzb.0\nzzn < - zzn")
        self.assertEqual(renamed(net=Net.read("n < n"), sign="abcd").never, ("abcdn",))
        self.assertTrue(renamed(Net({}), "a") == Net({}))

    def test_some_nets(self):
        for net, schedules, _ in small_nets()[::4]:
            made = renamed(net, "k")
            self.assertEqual(schedules_of(made), [tuple("k" + event for event in row) for row in schedules])
            for event in net.events:
                self.assertEqual(made.notes("k" + event), net.notes(event))
                self.assertEqual(made.needs("k" + event),
                                 tuple(tuple("k" + one for one in need) for need in net.needs(event)))

    def test_sixty_signs(self):
        name = "a" * 56
        self.assertEqual(renamed(Net({name: [], "b": [[name]]}), "bcde").events, ("bcde" + name, "bcdeb"))


class Loosened(unittest.TestCase):
    def test_each_need(self):
        for net, _, _ in small_nets():
            for event in net.events:
                for at in range(len(net.needs(event))):
                    needs, notes = parts_of(net)
                    needs[event] = needs[event][:at] + needs[event][at + 1:]
                    made = loosened(net, event, at)
                    self.assertTrue(made == Net(needs, notes))
                    self.assertLessEqual(set(made.never), set(net.never))

    def test_some(self):
        net = Net.read("a x\nb < -\nc y < a|b b a\nn < n a")
        self.assertEqual([net.needs("c"), net.needs("n")], [(("a",), ("a", "b"), ("b",)), (("a",), ("n",))])
        self.assertEqual(str(loosened(net, "c", 0)), "a x\nb < -\nc y < a|b b\nn < a n")
        self.assertEqual(str(loosened(net, "c", 1)), "a x\nb < -\nc y < a b\nn < a n")
        self.assertEqual(str(loosened(net=net, event="c", at=2)), "a x\nb < -\nc y < a a|b\nn < a n")
        self.assertEqual(loosened(net, "b", 0).never, ("n",))
        self.assertEqual(loosened(net, "n", 1).never, ("b", "c"))

    def test_refused(self):
        net = Net.read(TEXT)
        for value in strange_values("a") + ["z"]:
            for at in (0, 5, None):
                name = raised(Unknown, loosened, net, value, at).name
                self.assertTrue(name is value or (name.__class__, name) == (value.__class__, value))
        for event, many in (("a", 0), ("d", 1), ("e", 2)):
            for at in [-1, -2, many, many + 1, True, False, None, 0.0, "0", "", (0,), [0], {0: 0}, b"0", 10 ** 40]:
                found = raised(BadRow, loosened, net, event, at).at
                self.assertEqual((found, found.__class__), (at, at.__class__))


class Mixed(unittest.TestCase):
    def test_number_of_mixed_rows(self):
        for one, other in itertools.product(((3, 2), (1, 1, 1), (5,)), repeat=2):
            first, second = wide(one), renamed(wide(other), "q")
            many = number_of_schedules(first) * number_of_schedules(second)
            self.assertEqual(number_of_schedules(behind(first, second)), many)
            self.assertEqual(number_of_schedules(beside(first, second)),
                             many * math.comb(sum(one) + sum(other), sum(one)))


if __name__ == "__main__":
    unittest.main()
