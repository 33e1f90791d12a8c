"""Points [29], [30] and [32]: the order of two events, the papers that show it, and where and when events come."""

import itertools
import unittest

from helper import Like, raised, strange_values
from lateyields.errors import Never, Unknown
from lateyields.nets import Net
from lateyields.orders import Paper, latest, order_of, paper_of, round_of
from some_nets import TEXT, WAYS, small_nets, wide_nets

VALUES = ["", "a", "ab", "ahead", "loose", "z", 0, 1, -3, True, False, None, [], ["a"], (), ("a",), ("b", "c"), {},
          {"a": 1}, {"a": ["b"]}, [["a"]], [("a",)], (["a"],), ({"a": []},), [None], [True, 1]]


def word_of(schedules, one, other):
    """The word for two events, by all schedules."""
    if one == other:
        return "same"
    ahead = {row.index(one) < row.index(other) for row in schedules}
    return "loose" if len(ahead) == 2 else "ahead" if True in ahead else "behind"


def exchanged(schedules, one, other):
    """Whether the two are neighbours in some schedule that is another schedule when they are exchanged."""
    known = set(schedules)
    for row in schedules:
        at = row.index(one)
        if row[at + 1:at + 2] == (other,) and row[:at] + (other, one) + row[at + 2:] in known:
            return True
    return False


def coming(net):
    return [event for event in net.events if event not in net.never]


def first_ones(net, most, without=()):
    """A row of events that can come, the least one first, none of `without`."""
    row = []
    while len(row) < most:
        ready = [event for event in net.events if event not in row and event not in without
                 and all(set(need) & set(row) for need in net.needs(event))]
        if not ready:
            break
        row.append(ready[0])
    return row


class Order(unittest.TestCase):
    def test_each_two_events(self):
        words = []
        for net, schedules, _ in small_nets():
            for one, other in itertools.product(coming(net), repeat=2):
                word = word_of(schedules, one, other)
                self.assertEqual(order_of(net, one, other), word)
                words.append(word)
        for word in ("same", "ahead", "behind", "loose"):
            self.assertGreater(words.count(word), 300)

    def test_loose_ones_can_be_exchanged_as_neighbours(self):
        for net, schedules, _ in small_nets():
            for one, other in itertools.permutations(coming(net), 2):
                self.assertEqual(order_of(net, one, other) == "loose", exchanged(schedules, one, other))

    def test_one_of_several(self):
        net = Net.read("a\nb\nc < a|b\nd < a b")
        self.assertEqual([order_of(net, one, "c") for one in "abcd"], ["loose", "loose", "same", "loose"])
        self.assertEqual([order_of(net, one, "d") for one in "abcd"], ["ahead", "ahead", "loose", "same"])
        self.assertEqual(order_of(net, "d", "a"), "behind")
        self.assertEqual(order_of(net=net, one="d", other="b"), "behind")

    def test_refused(self):
        net = Net.read(TEXT)
        for call in (order_of, paper_of):
            for value in strange_values("a") + ["z", "A", "a b"]:
                self.assertIs(raised(Unknown, call, net, value, "z").name.__class__, value.__class__)
                for one, other in ((value, "a"), ("a", value), ("n", value), (value, "n")):
                    name = raised(Unknown, call, net, one, other).name
                    self.assertTrue(name is value or (name.__class__, name) == (value.__class__, value))
            self.assertEqual(raised(Unknown, call, net, "y", "z").name, "y")
            self.assertEqual(raised(Never, call, net, "o", "n").event, "o")
            self.assertEqual(raised(Never, call, net, "n", "o").event, "n")
            self.assertEqual(raised(Never, call, net, "a", "o").event, "o")
            self.assertEqual(raised(Never, call, net, "n", "a").event, "n")
            self.assertEqual(raised(Never, call, net, "n", "n").event, "n")
            self.assertEqual(raised(Unknown, call, Net({}), "a", "a").name, "a")


class Wide(unittest.TestCase):
    def check(self, name):
        """Compares each two events with what comes without one of them, and asks the paper."""
        net = wide_nets()[name]
        events = coming(net)
        without = {event: set(first_ones(net, 60, [event])) for event in events}
        words = []
        for one, other in itertools.permutations(events[::3], 2):
            word = "ahead" if other not in without[one] else "behind" if one not in without[other] else "loose"
            self.assertEqual(order_of(net, one, other), word)
            paper = paper_of(net, one, other)
            self.assertEqual((paper.word, paper.holds(net)), (word, True))
            words.append(word)
        return words.count("ahead"), words.count("behind"), words.count("loose")

    def test_without_needs(self):
        self.assertEqual(self.check("loose"), (0, 0, 380))

    def test_a_row(self):
        self.assertEqual(self.check("row"), (190, 190, 0))

    def test_rows(self):
        events = wide_nets()["rows"].events[::3]
        pairs = [pair for pair in itertools.combinations(events, 2) if pair[0][-1] == pair[1][-1]]
        self.assertEqual(self.check("rows"), (len(pairs), len(pairs), 380 - 2 * len(pairs)))

    def test_one_of_several(self):
        for name in ("either", "wide", "never"):
            ahead, behind, loose = self.check(name)
            self.assertEqual(ahead, behind)
            self.assertGreater(loose, 100)

    def test_many_needs(self):
        ahead, behind, loose = self.check("many")
        self.assertEqual(ahead, behind)
        self.assertGreater(min(ahead, loose), 20)


class PaperOf(unittest.TestCase):
    def test_each_two_events(self):
        for net, schedules, _ in small_nets():
            for one, other in itertools.permutations(coming(net), 2):
                paper = paper_of(net, one, other)
                self.assertIs(paper.__class__, Paper)
                self.assertEqual((paper.word, paper.one, paper.other), (word_of(schedules, one, other), one, other))
                self.assertIs(paper.events.__class__, tuple)
                self.assertIs(paper.holds(net), True)

    def test_equal_ones(self):
        for net, _, _ in small_nets():
            for event in coming(net):
                self.assertIsNone(paper_of(net, event, event))

    def test_by_names(self):
        paper = paper_of(net=Net.read(TEXT), one="a", other="c")
        self.assertEqual((paper.word, paper.one, paper.other), ("ahead", "a", "c"))
        self.assertIs(paper.holds(net=Net.read(TEXT)), True)


class Values(unittest.TestCase):
    def test_any_values(self):
        for value in VALUES:
            paper = Paper(value, "a", "b", ("c",))
            self.assertEqual((paper.word, paper.one, paper.other, paper.events), (value, "a", "b", ("c",)))
            self.assertIs(paper.word.__class__, value.__class__)
            paper = Paper("loose", value, value, value)
            expected = tuple(value) if isinstance(value, list) else value
            self.assertEqual((paper.one, paper.other, paper.events), (value, value, expected))
            self.assertIs(paper.events.__class__, expected.__class__)

    def test_by_names(self):
        paper = Paper(word="loose", one="a", other="b", events=["c", "d"])
        self.assertEqual((paper.word, paper.one, paper.other, paper.events), ("loose", "a", "b", ("c", "d")))

    def test_lists_and_dicts_are_copied(self):
        inner = ["x"]
        values = [inner, {"k": inner}, [inner, (inner,)], ({"k": [inner]},), [[[[[[[inner]]]]]]]]
        papers = [Paper(value, value, value, value) for value in values]
        before = [repr((paper.word, paper.one, paper.other, paper.events)) for paper in papers]
        inner.append("y")
        values[1]["m"] = 1
        values[2].append("z")
        self.assertEqual([repr((paper.word, paper.one, paper.other, paper.events)) for paper in papers], before)

    def test_a_list_of_events_changed_later(self):
        net = Net.read("a\nb\nc\nd < c")
        events = ["c"]
        paper = Paper("loose", "a", "b", events)
        events.append("a")
        self.assertEqual((paper.events, paper.holds(net)), (("c",), True))

    def test_no_order_of_its_own(self):
        self.assertFalse(Paper("loose", "a", "b", ()) == Paper("loose", "a", "b", ()))


class Holds(unittest.TestCase):
    def setUp(self):
        self.net = Net.read(WAYS + "\nn < n\np")

    def check(self, expected, word, one, other, events):
        for value in (tuple(events.split()), events.split(), tuple(events.split()) * 2, events.split()[::-1]):
            self.assertIs(Paper(word, one, other, value).holds(self.net), expected)

    def test_ahead(self):
        self.check(True, "ahead", "a", "d", "b c e f p")
        self.check(False, "ahead", "a", "d", "b c e p")
        self.check(False, "ahead", "a", "d", "b c f e")
        self.check(False, "ahead", "a", "d", "")
        self.check(False, "ahead", "d", "a", "b c e f p")
        self.check(False, "ahead", "b", "d", "a c e f p")
        self.check(True, "ahead", "a", "g", "b c e f p")

    def test_ahead_with_events_that_are_no_cut(self):
        # Neither d nor n can come behind these others, but they show it nevertheless.
        self.check(True, "ahead", "a", "g", "b c e f p n")
        self.check(True, "ahead", "a", "g", "b c d e f p")
        self.check(True, "ahead", "a", "d", "b c e f p g")
        self.check(False, "ahead", "a", "d", "b c e f p q")

    def test_behind(self):
        self.check(True, "behind", "d", "a", "b c e f p")
        self.check(False, "behind", "d", "a", "b c e p")
        self.check(False, "behind", "d", "a", "")
        self.check(False, "behind", "a", "d", "b c e f p")

    def test_only_one_more_can_come(self):
        # `b` could come, too.
        self.check(False, "ahead", "a", "d", "c e f p")
        self.check(False, "behind", "d", "a", "c e f p")

    def test_what_never_comes_counts_by_its_needs(self):
        net = Net.read("a\nb < a\nm < n\nn < m")
        for events, expected in ((("m",), False), (("n",), False), (("m", "n"), True), ((), True)):
            self.assertIs(Paper("ahead", "a", "b", events).holds(net), expected)
            self.assertIs(Paper("behind", "b", "a", events).holds(net), expected)
            self.assertIs(Paper("loose", "b", "a", events).holds(net), False)

    def test_loose(self):
        self.check(True, "loose", "a", "b", "")
        self.check(True, "loose", "a", "b", "p")
        self.check(True, "loose", "c", "d", "a")
        self.check(True, "loose", "c", "d", "a b p")
        self.check(True, "loose", "d", "c", "a b p")

    def test_loose_without_a_cut(self):
        self.check(False, "loose", "a", "b", "c")
        self.check(False, "loose", "a", "b", "n")
        self.check(False, "loose", "e", "f", "a d c g")

    def test_loose_where_one_is_not_ready(self):
        self.check(False, "loose", "c", "d", "")
        self.check(False, "loose", "c", "d", "b")
        self.check(False, "loose", "d", "c", "b")
        self.check(False, "loose", "b", "g", "a")
        self.check(False, "loose", "g", "b", "a")

    def test_the_events_themselves_are_not_in_it(self):
        self.check(False, "loose", "a", "b", "a")
        self.check(False, "loose", "a", "b", "b")
        self.check(False, "ahead", "a", "d", "b c e f p a")
        self.check(False, "ahead", "a", "d", "b c e f p d")
        self.check(False, "behind", "d", "a", "b c e f p a")
        self.check(False, "behind", "d", "a", "b c e f p d")

    def test_equal_events(self):
        for word in ("ahead", "behind", "loose", "same"):
            self.check(False, word, "a", "a", "b c d e f g p")
            self.check(False, word, "a", "a", "b c e f p")
            self.check(False, word, "a", "a", "")

    def test_events_that_never_come(self):
        for word, events in (("ahead", "b c d e f g p"), ("behind", "b c d e f g p"), ("loose", "")):
            self.check(False, word, "a", "n", events)
            self.check(False, word, "n", "a", events)
        net = Net.read("a\nn < n")
        self.assertFalse(Paper("ahead", "a", "n", ()).holds(net))
        self.assertFalse(Paper("behind", "n", "a", ()).holds(net))

    def test_other_words(self):
        for word in ("", "same", "Ahead", "ahead ", "looser"):
            self.check(False, word, "a", "d", "b c e f p")
            self.check(False, word, "d", "a", "b c e f p")
            self.check(False, word, "a", "b", "")

    def test_events_of_other_nets(self):
        self.check(False, "loose", "a", "b", "z")
        self.check(False, "ahead", "a", "d", "b c e f p z")
        self.check(False, "loose", "a", "z", "")
        self.check(False, "loose", "z", "a", "")
        self.check(False, "ahead", "a", "z", "b c e f p")
        self.check(False, "behind", "z", "a", "b c e f p")
        self.assertFalse(Paper("loose", "a", "b", ()).holds(Net({})))

    def test_any_other_values(self):
        for value in VALUES + strange_values("loose") + [Like("ahead")]:
            self.assertIs(Paper(value, "a", "b", ()).holds(self.net), value == "loose" and isinstance(value, str))
        for value in VALUES + strange_values("a"):
            if value.__class__ is not str or value not in ("a", "c"):
                for word in ("ahead", "behind", "loose"):
                    self.assertIs(Paper(word, value, "a", ()).holds(self.net), False)
                    self.assertIs(Paper(word, "a", value, ()).holds(self.net), False)
                    self.assertIs(Paper(word, value, value, ()).holds(self.net), False)
        for value in VALUES + strange_values("p"):
            if value.__class__ in (tuple, list) and all(entry == "p" for entry in value):
                continue
            for word in ("ahead", "behind", "loose"):
                self.assertIs(Paper(word, "a", "b", value).holds(self.net), False)
                self.assertIs(Paper(word, "a", "b", [value]).holds(self.net), False)
                self.assertIs(Paper(word, "a", "b", ("p", value)).holds(self.net), False)

    def test_values_that_are_equal_to_everything(self):
        events = ("b", "c", "e", "f", "p")
        self.assertIs(Paper(Like("ahead"), "a", "d", events).holds(self.net), False)
        self.assertIs(Paper("ahead", "a", Like("d"), events).holds(self.net), False)
        self.assertIs(Paper("ahead", "a", "d", events + (Like("p"),)).holds(self.net), False)

    def test_a_string_of_events(self):
        net = Net.read("a\nb\nc\nd < c")
        self.assertTrue(Paper("loose", "a", "b", ["c", "d"]).holds(net))
        for value in ("cd", "c", "", {"c": True}, {"c"}, {}):
            self.assertFalse(Paper("loose", "a", "b", value).holds(net))

    def test_all_sets_of_events(self):
        for net, schedules, cuts in small_nets():
            if len(net) > 5:
                continue
            for one, other in itertools.permutations(net.events, 2):
                for word in ("ahead", "behind", "loose"):
                    self.all_sets(net, schedules, cuts, word, one, other)

    def all_sets(self, net, schedules, cuts, word, one, other):
        others = [event for event in net.events if event not in (one, other)]
        first = {"ahead": one, "behind": other, "loose": None}[word]
        come = one not in net.never and other not in net.never
        held = 0
        for many in range(len(others) + 1):
            for events in itertools.combinations(others, many):
                able = [event for event in net.events if event not in events
                        and all(set(need) & set(events) for need in net.needs(event))]
                expected = come and set(able) <= {first}
                if word == "loose":
                    expected = come and set(events) in cuts and one in able and other in able
                self.assertIs(Paper(word, one, other, events).holds(net), expected)
                held += expected
        self.assertEqual(held > 0, come and word_of(schedules, one, other) == word)


class Latest(unittest.TestCase):
    def test_all_schedules(self):
        for net, schedules, _ in small_nets():
            for event in coming(net):
                self.assertEqual(latest(net, event), max(row.index(event) for row in schedules))

    def test_wide(self):
        nets = wide_nets()
        self.assertEqual([latest(nets["loose"], "e0"), latest(nets["row"], "e0"), latest(nets["row"], "e59")],
                         [59, 0, 59])
        self.assertEqual([latest(nets["rows"], event) for event in ("e3", "e13", "e53")], [54, 55, 59])
        self.assertEqual(latest(net=nets["never"], event="e0"), 47)


class Round(unittest.TestCase):
    def test_the_long_way(self):
        for net, _, _ in small_nets():
            came, number = [], 0
            while len(came) < len(coming(net)):
                ready = [event for event in net.events if event not in came
                         and all(set(need) & set(came) for need in net.needs(event))]
                self.assertEqual([round_of(net, event) for event in ready], [number] * len(ready))
                came += ready
                number += 1

    def test_one_of_several(self):
        net = Net.read("a\nb < a\nc < b\nd < c|b\ne < d c|a\nf < e|a d")
        self.assertEqual([round_of(net, event) for event in net.events], [0, 1, 2, 2, 3, 3])

    def test_wide(self):
        nets = wide_nets()
        self.assertEqual([round_of(nets["loose"], "e59"), round_of(nets["row"], "e59"), round_of(nets["rows"], "e59")],
                         [0, 59, 5])
        self.assertEqual(round_of(net=nets["row"], event="e30"), 30)


class OneEvent(unittest.TestCase):
    def test_refused(self):
        net = Net.read(TEXT)
        for call in (latest, round_of):
            for value in strange_values("a") + ["z"]:
                name = raised(Unknown, call, net, value).name
                self.assertTrue(name is value or (name.__class__, name) == (value.__class__, value))
            self.assertEqual(raised(Never, call, net, "n").event, "n")
            self.assertEqual(raised(Never, call, net, "o").event, "o")


if __name__ == "__main__":
    unittest.main()
