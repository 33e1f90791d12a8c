"""Points [2], [26], [27] and [28]: cuts."""

import itertools
import random
import unittest

from all_orders import cuts_of, ready_of, schedules_of
from any_net import net_parts
from any_program import program_text
from helper import raised, read, strange_values
from lateyields.cuts import Cut
from lateyields.errors import LateError, NoCut, NotReady, OtherNet, Unknown
from lateyields.nets import Net
from lateyields.programs import Program

# `n` and `o` never come, `d` needs one of two, `e` both.
TEXT = "a x\nb\nc < a\nd < a|b\ne < a b\nf y < d|n\nn < o\no < -\np < n|o c"

# The common events of the cuts a c and b c are no cut: c needs one of a, b.
EITHER = "a\nb\nc < a|b"


def net():
    return Net.read(TEXT)


def cut(*events):
    return Cut(net(), events)


def some_nets(many=120):
    """Nets with all their cuts, made by chance; some of them are nets of programs."""
    found = [(net(), cuts_of(net())), (Net.read(EITHER), cuts_of(Net.read(EITHER))), (Net({}), {frozenset()})]
    for seed in range(many):
        made = Net(*net_parts(seed))
        found.append((made, cuts_of(made)))
    for seed in range(many):
        try:
            made = Net.of(Program.read(program_text(seed)))
        except LateError:
            continue
        cuts = cuts_of(made, 40)
        if cuts is not None and len(cuts) > len(made) + 1:
            found.append((made, cuts))
    return found


class Made(unittest.TestCase):
    def check(self, made, events, ready):
        self.assertEqual((made.events, made.ready), (tuple(events.split()), tuple(ready.split())))
        self.assertEqual((len(made), made.is_full), (len(made.events), ready == ""))
        self.assertTrue(made.net == net())

    def test_no_events(self):
        self.check(Cut(net()), "", "a b")
        self.check(Cut(net(), ()), "", "a b")
        self.check(Cut(net(), []), "", "a b")

    def test_events(self):
        self.check(cut("a"), "a", "b c d")
        self.check(cut("b"), "b", "a d")
        self.check(cut("a", "d", "f"), "a d f", "b c")
        self.check(cut("a", "b", "c", "d", "e", "f"), "a b c d e f", "")

    def test_any_order_and_repeated(self):
        for events in itertools.permutations(["a", "d", "f", "c"]):
            self.check(Cut(net(), events), "a c d f", "b")
            self.check(Cut(net(), list(events) * 3), "a c d f", "b")

    def test_by_name(self):
        self.check(Cut(net=net(), events=["d", "b"]), "b d", "a f")

    def test_of_no_net(self):
        empty = Cut(Net({}))
        self.assertEqual((empty.events, empty.ready, empty.is_full, len(empty)), ((), (), True, 0))
        self.assertTrue(Cut.full(Net({})) == empty)

    def test_an_event_that_needs_itself(self):
        made = Net.read("a < a|b\nb")
        self.assertEqual(Cut(made).ready, ("b",))
        self.assertEqual(Cut(made, ["a", "b"]).events, ("a", "b"))
        self.assertEqual(raised(NoCut, Cut, made, ["a"]).event, "a")

    def test_the_list_is_not_changed_or_kept(self):
        events = ["d", "a", "d"]
        made = Cut(net(), events)
        self.assertEqual(events, ["d", "a", "d"])
        events.append("f")
        self.check(made, "a d", "b c f")

    def test_attributes_are_tuples(self):
        made = cut("a", "b")
        self.assertIs(made.events.__class__, tuple)
        self.assertIs(made.ready.__class__, tuple)
        self.assertIs(made.is_full, False)
        self.assertIs(Cut.full(net()).is_full, True)


class Refused(unittest.TestCase):
    def test_unknown_events(self):
        self.assertEqual(raised(Unknown, cut, "x").name, "x")
        self.assertEqual(raised(Unknown, cut, "a", "z", "x", "b").name, "z")
        self.assertEqual(raised(Unknown, Cut, net=net(), events=["a", "z"]).name, "z")

    def test_unknown_values(self):
        for value in strange_values("a"):
            error = raised(Unknown, cut, "b", value, "x")
            self.assertIs(error.name.__class__, value.__class__)
            self.assertTrue(error.name == value)

    def test_no_cut(self):
        for events, least in (("c", "c"), ("d", "d"), ("e a", "e"), ("f e a", "e"), ("f c b", "c"), ("a b n", "n"),
                              ("a o n c", "n"), ("p a c", "p"), ("a b c d e f p o", "o"), ("d d c c", "c"),
                              ("f a", "f"), ("f d", "d")):
            self.assertEqual(raised(NoCut, cut, *events.split()).event, least)

    def test_unknown_events_come_first(self):
        self.assertEqual(raised(Unknown, cut, "c", "x").name, "x")

    def test_the_least_that_could_not_come(self):
        # a and b come; c needs d, and d never comes.
        made = Net.read("a\nb < a\nc < d\nd < -\ne < c")
        self.assertEqual(raised(NoCut, Cut, made, ["e", "d", "c", "b", "a"]).event, "c")
        self.assertEqual(raised(NoCut, Cut, made, ["e", "d", "a"]).event, "d")
        self.assertEqual(raised(NoCut, Cut, made, ["e", "a"]).event, "e")
        self.assertEqual(raised(NoCut, Cut, made, ["b"]).event, "b")

    def test_all_sets_of_events(self):
        for made, cuts in some_nets(60):
            if len(made) > 7:
                continue
            for many in range(len(made) + 1):
                for events in itertools.combinations(made.events, many):
                    self.check_set(made, cuts, frozenset(events))

    def check_set(self, made, cuts, events):
        if events in cuts:
            self.assertEqual(Cut(made, sorted(events, reverse=True)).events, tuple(sorted(events)))
            return
        came = max([one for one in cuts if one <= events], key=len)
        self.assertEqual(raised(NoCut, Cut, made, list(events)).event, min(events - came))


class Contains(unittest.TestCase):
    def test_events(self):
        made = cut("a", "d")
        for event in made.net.events + ("x", ""):
            self.assertIs(event in made, event in ("a", "d"))

    def test_any_value(self):
        for value in strange_values("a") + [cut("a"), net(), ("a", "d"), "ad"]:
            self.assertIs(value in cut("a", "d"), False)


class Plus(unittest.TestCase):
    def test_ready_events(self):
        made = cut("a")
        for event in ("b", "c", "d"):
            more = made + event
            self.assertTrue(more == cut("a", event))
            self.assertIs(more.__class__, Cut)
        self.assertEqual((made.events, made.ready), (("a",), ("b", "c", "d")))

    def test_in_place_makes_a_new_one(self):
        made = first = cut("a")
        made += "b"
        self.assertEqual((made.events, first.events), (("a", "b"), ("a",)))

    def test_what_is_not_ready(self):
        made = cut("a", "c")
        for value in ["a", "c", "e", "f", "n", "o", "p", "x"] + strange_values("b") + [cut("b"), net(), ["b"], ("b",)]:
            error = raised(NotReady, lambda: made + value)
            self.assertIs(error.event.__class__, value.__class__)
            self.assertTrue(error.event == value)
        self.assertEqual((made.events, made.ready), (("a", "c"), ("b", "d")))

    def test_full(self):
        made = Cut.full(net())
        for event in made.net.events:
            self.assertEqual(raised(NotReady, lambda: made + event).event, event)

    def test_each_schedule(self):
        for made, cuts in some_nets(40):
            for schedule in (schedules_of(made, 300) or [])[:30]:
                now = Cut(made)
                for event in schedule:
                    self.assertIn(event, now.ready)
                    self.assertFalse(now.is_full)
                    now = now + event
                self.assertTrue(now.is_full)
                self.assertTrue(now == Cut.full(made))


class Joined(unittest.TestCase):
    def test_or(self):
        self.assertEqual((cut("a", "c") | cut("b", "d", "f")).events, ("a", "b", "c", "d", "f"))
        self.assertEqual((cut("a") | cut()).events, ("a",))
        self.assertTrue(cut("a", "d") | cut("b", "d") == cut("a", "b", "d"))

    def test_and(self):
        self.assertEqual((cut("a", "c", "d") & cut("a", "b", "d")).events, ("a", "d"))
        self.assertEqual((cut("a") & cut("b")).events, ())
        self.assertTrue(cut("a", "d") & cut("a", "d") == cut("a", "d"))

    def test_common_events_that_are_no_cut(self):
        self.assertEqual((cut("a", "d", "f") & cut("b", "d", "f")).events, ())
        either = Net.read(EITHER)
        self.assertEqual((Cut(either, ["a", "c"]) & Cut(either, ["b", "c"])).events, ())
        deeper = Net.read(EITHER + "\nd\ne < c")
        found = Cut(deeper, ["a", "c", "d", "e"]) & Cut(deeper, ["b", "c", "d", "e"])
        self.assertEqual((found.events, found.ready), (("d",), ("a", "b")))

    def test_within(self):
        self.assertIs(cut("a").within(cut("a", "c")), True)
        self.assertIs(cut("a", "c").within(cut("a")), False)
        self.assertIs(cut("a").within(other=cut("a")), True)
        self.assertIs(cut().within(cut()), True)
        self.assertIs(cut("a").within(cut("b")), False)
        self.assertIs(cut("a").within(cut("b", "d")), False)

    def test_nothing_is_changed(self):
        one, other = cut("a", "d", "f"), cut("b", "d", "f")
        self.assertEqual(len([one | other, one & other, one.within(other)]), 3)
        self.assertEqual((one.events, other.events), (("a", "d", "f"), ("b", "d", "f")))
        self.assertEqual((one.ready, other.ready), (("b", "c"), ("a",)))

    def test_other_nets(self):
        for text in (TEXT.replace("a x", "a y"), TEXT.replace("a x", "a"), TEXT.replace("d < a|b", "d < a b"),
                     TEXT + "\nq", TEXT.replace("p < n|o c", "p < n c"), EITHER, "a", ""):
            one, other = cut(), Cut(Net.read(text))
            for left, right in ((one, other), (other, one)):
                raised(OtherNet, lambda: left | right)
                raised(OtherNet, lambda: left & right)
                raised(OtherNet, left.within, right)

    def test_nets_made_anew(self):
        one = Cut(Net.read(TEXT), ["a"])
        rows = TEXT.split("\n")[::-1]
        other = Cut(Net.read("\n".join(rows)), ["b"])
        self.assertIsNot(one.net, other.net)
        self.assertEqual(((one | other).events, (one & other).events, one.within(other)), (("a", "b"), (), False))
        program = read("job main; begin b; pause; end; job b; end")
        one, other = Cut(Net.of(program), ["main.0", "b.0"]), Cut(Net.of(program), ["main.0", "main.1"])
        self.assertEqual(((one | other).events, (one & other).events), (("b.0", "main.0", "main.1"), ("main.0",)))


class Lattice(unittest.TestCase):
    def test_all_cuts(self):
        for made, cuts in some_nets(40):
            chosen = sorted(cuts, key=sorted)
            random.Random(len(chosen)).shuffle(chosen)
            found = [Cut(made, list(events)) for events in chosen[:12]]
            for one in found:
                for other in found:
                    self.check_pair(one, other, cuts)

    def check_pair(self, one, other, cuts):
        events, others = frozenset(one.events), frozenset(other.events)
        self.assertEqual(frozenset((one | other).events), events | others)
        greatest = max([some for some in cuts if some <= events & others], key=len)
        self.assertEqual(frozenset((one & other).events), greatest)
        self.assertEqual(one.within(other), events <= others)
        self.assertTrue(one | other == other | one)
        self.assertTrue(one & other == other & one)
        self.assertTrue(one | (one & other) == one)
        self.assertTrue(one & (one | other) == one)
        self.assertEqual(one.within(other), (one | other) == other)
        self.assertEqual(one.within(other), (one & other) == one)

    def test_three(self):
        for made, cuts in some_nets(25):
            found = [Cut(made, list(events)) for events in sorted(cuts, key=sorted)[:6]]
            for one, other, third in itertools.product(found, found, found):
                self.assertTrue((one | other) | third == one | (other | third))
                self.assertTrue((one & other) & third == one & (other & third))


class AllCuts(unittest.TestCase):
    def test_those_of_all_schedules(self):
        for made, cuts in some_nets():
            schedules = schedules_of(made, 400)
            if schedules is None:
                continue
            firsts = {frozenset(schedule[:many]) for schedule in schedules for many in range(len(schedule) + 1)}
            self.assertEqual(firsts, self.found_by_adding(made))
            self.assertEqual(firsts, cuts)

    def found_by_adding(self, made):
        begun, found = [Cut(made)], {frozenset()}
        while begun:
            now = begun.pop()
            for event in now.ready:
                more = now + event
                if frozenset(more.events) not in found:
                    found.add(frozenset(more.events))
                    begun.append(more)
        return found

    def test_what_is_ready(self):
        for made, cuts in some_nets():
            for events in cuts:
                now = Cut(made, list(events))
                self.assertEqual(now.ready, tuple(ready_of(made, events)))
                self.assertEqual(now.is_full, ready_of(made, events) == [])

    def test_two_rows_with_the_same_cut(self):
        for made, cuts in some_nets(40):
            schedules = schedules_of(made, 300)
            behind = {}
            for schedule in schedules or []:
                for many in range(len(schedule) + 1):
                    rows = behind.setdefault(Cut(made, schedule[:many]).packed(), {})
                    rows.setdefault(schedule[:many], set()).add(schedule[many:])
            for rows in behind.values():
                self.assertEqual(len({frozenset(ends) for ends in rows.values()}), 1)


class Order(unittest.TestCase):
    def both(self, one, other):
        """The first cut is ahead of the other one."""
        self.assertTrue(one < other and one <= other and other > one and other >= one and one != other)
        self.assertFalse(other < one or other <= one or one > other or one >= other or one == other)

    def test_equal(self):
        one, other = cut("a", "d"), Cut(Net.read(TEXT), ["d", "a", "a"])
        self.assertTrue(one == other and one <= other and one >= other)
        self.assertFalse(one != other or one < other or one > other)

    def test_equal_to_nothing_else(self):
        made = cut("a")
        for other in (("a",), ["a"], "a", made.packed(), net(), None, 1, True, object(), {"a": True}):
            self.assertFalse(made == other)
            self.assertTrue(made != other)

    def test_other_events(self):
        self.assertFalse(cut("a") == cut("b"))
        self.assertTrue(cut("a") != cut())

    def test_equal_events_of_unlike_nets(self):
        one, other = Cut(Net.read("a\nb"), ["a"]), Cut(Net.read("a\nb < a"), ["a"])
        self.assertFalse(one == other)
        self.both(one, other)

    def test_by_the_texts_of_nets(self):
        # The rows "a" and "b" are ahead of "a x": a newline is less than a blank.
        one, other = Net.read("a\nb"), Net.read("a x\nb")
        self.assertLess(str(one), str(other))
        for events in ((), ("a",), ("a", "b")):
            for others in ((), ("b",), ("a", "b")):
                self.both(Cut(one, events), Cut(other, others))

    def test_by_the_number_of_events(self):
        self.both(cut("b"), cut("a", "c"))
        self.both(cut(), cut("a"))
        self.both(cut("b", "d"), cut("a", "c", "d"))

    def test_by_the_events(self):
        self.both(cut("a"), cut("b"))
        self.both(cut("a", "c"), cut("a", "d"))
        self.both(cut("a", "d"), cut("b", "d"))

    def test_other_values(self):
        made = cut("a")
        for other in (("a",), ["a"], "a", b"1", net(), None, 1, True, object()):
            for compare in (lambda: made < other, lambda: made <= other, lambda: made > other, lambda: made >= other,
                            lambda: other < made, lambda: other <= made, lambda: other > made, lambda: other >= made):
                raised(TypeError, compare)

    def test_all_cuts(self):
        texts = ["a\nb", "a\nb < a", EITHER, "a x\nb\nc < a|b", ""]
        found = [Cut(Net.read(text), list(events)) for text in texts for events in cuts_of(Net.read(text))]
        random.Random(1).shuffle(found)
        keys = [(str(one.net), len(one.events), one.events) for one in sorted(found)]
        self.assertEqual(keys, sorted(keys))
        for one, other in itertools.product(found, found):
            key, other_key = [(str(some.net), len(some), some.events) for some in (one, other)]
            self.assertEqual([one < other, one <= other, one > other, one >= other, one == other],
                             [key < other_key, key <= other_key, key > other_key, key >= other_key, key == other_key])


class Packed(unittest.TestCase):
    def test_packed(self):
        self.assertEqual(cut().packed(), b"000000000")
        self.assertEqual(cut("a", "d", "f").packed(), b"100101000")
        self.assertEqual(Cut.full(net()).packed(), b"111111000")
        self.assertEqual(Cut(Net({})).packed(), b"")
        self.assertIs(cut("a").packed().__class__, bytes)

    def test_unpacked(self):
        self.assertTrue(Cut.unpacked(net(), b"100101000") == cut("a", "d", "f"))
        self.assertTrue(Cut.unpacked(net=net(), data=b"000000000") == cut())
        self.assertTrue(Cut.unpacked(Net({}), b"") == Cut(Net({})))

    def test_both_ways(self):
        for made, cuts in some_nets():
            for events in cuts:
                one = Cut(made, list(events))
                self.assertEqual(one.packed(), b"".join([b"1" if event in events else b"0" for event in made.events]))
                self.assertTrue(Cut.unpacked(made, one.packed()) == one)

    def test_another_number_of_signs(self):
        for data in (b"", b"1", b"00000000", b"0000000000", b"1000000001", b"100000000\n", b"0" * 18):
            self.assertIsNone(raised(NoCut, Cut.unpacked, net(), data).event)
        self.assertIsNone(raised(NoCut, Cut.unpacked, Net({}), b"0").event)

    def test_other_signs(self):
        for data in (b"00000000x", b"00000000 ", b"20000000 ", b"\x0000000000", b"/00000000", b"\xff00000000",
                     b"00000000\n", b"b00000000", b"000010002"):
            self.assertEqual(len(data), 9)
            self.assertIsNone(raised(NoCut, Cut.unpacked, net(), data).event)

    def test_what_is_no_cut(self):
        for data, least in ((b"001000000", "c"), (b"100011000", "e"), (b"000101100", "d"), (b"110000011", "o"),
                            (b"000000010", "o"), (b"111111111", "n")):
            self.assertEqual(raised(NoCut, Cut.unpacked, net(), data).event, least)

    def test_signs_come_ahead_of_cuts(self):
        for data in (b"00100000x", b"0010000000", b"00100000"):
            self.assertIsNone(raised(NoCut, Cut.unpacked, net(), data).event)


class Without(unittest.TestCase):
    def check(self, events, expected):
        found = Cut.without(net(), events.split())
        self.assertEqual(found.events, tuple(expected.split()))
        self.assertTrue(Cut.without(net(), tuple(events.split()) * 2) == found)

    def test_events(self):
        self.check("", "a b c d e f")
        self.check("a", "b d f")
        self.check("b", "a c d f")
        self.check("a b", "")
        self.check("d", "a b c e")
        self.check("f e c", "a b d")

    def test_events_that_never_come(self):
        self.check("n", "a b c d e f")
        self.check("o p", "a b c d e f")
        self.check("n d", "a b c e")

    def test_by_name(self):
        self.assertEqual(Cut.without(net=net(), events=["a"]).events, ("b", "d", "f"))

    def test_unknown_events(self):
        self.assertEqual(raised(Unknown, Cut.without, net(), ["a", "z", "x"]).name, "z")
        for value in strange_values("a"):
            error = raised(Unknown, Cut.without, net(), ("b", value, "x"))
            self.assertIs(error.name.__class__, value.__class__)
            self.assertTrue(error.name == value)

    def test_the_list_is_not_changed(self):
        events = ["b", "a", "b"]
        Cut.without(net(), events)
        self.assertEqual(events, ["b", "a", "b"])

    def test_the_greatest(self):
        for made, cuts in some_nets(50):
            for events in itertools.chain(itertools.combinations(made.events, 1),
                                          itertools.combinations(made.events[:9], 2)):
                greatest = max([one for one in cuts if not one & set(events)], key=len)
                self.assertEqual(frozenset(Cut.without(made, events).events), greatest)


class Full(unittest.TestCase):
    def test_full(self):
        full = Cut.full(net())
        self.assertEqual((full.events, full.ready, full.is_full), (("a", "b", "c", "d", "e", "f"), (), True))
        self.assertTrue(Cut.full(net=net()) == full)

    def test_nothing_ever_comes(self):
        full = Cut.full(Net.read("a < b\nb < a\nc < -"))
        self.assertEqual((full.events, full.ready, full.is_full), ((), (), True))

    def test_all_nets(self):
        for made, cuts in some_nets():
            full = Cut.full(made)
            self.assertEqual(frozenset(full.events), max(cuts, key=len))
            self.assertEqual(sorted(full.events + made.never), list(made.events))
            self.assertTrue(full.is_full)

    def test_of_programs(self):
        made = Net.of(read("job main; begin b; wait g; end; job b; pause; open g; end"))
        self.assertEqual(Cut.full(made).events, made.events)
        self.assertEqual(Cut.without(made, ["b.1"]).events, ("b.0", "main.0"))
