"""Point [31]: exchanges of neighbours that lead from one schedule to another."""

import itertools
import random
import unittest

from all_orders import ready_of, schedules_of
from helper import raised, strange_values
from lateyields.errors import NoSchedule
from lateyields.nets import Net
from lateyields.swaps import distance, swaps
from some_nets import TEXT, small_nets, wide_nets


def unlike_pairs(one, other):
    """The number of pairs of events that stand in unlike orders."""
    place = {event: at for at, event in enumerate(other)}
    return sum(place[first] > place[second] for first, second in itertools.combinations(one, 2))


def is_schedule(net, row):
    for at, event in enumerate(row):
        if event in row[:at] or not all(set(need) & set(row[:at]) for need in net.needs(event)):
            return False
    return len(row) == len(net) - len(net.never)


def any_schedule(net, chance):
    row = []
    while ready := ready_of(net, row):
        row.append(chance.choice(ready))
    return row


class Between(unittest.TestCase):
    def check(self, net, one, other):
        places = swaps(net, one, other)
        self.assertIs(places.__class__, list)
        row = list(one)
        for place in places:
            self.assertIs(place.__class__, int)
            self.assertIn(place, range(len(row) - 1))
            row[place], row[place + 1] = row[place + 1], row[place]
            self.assertTrue(is_schedule(net, row))
        self.assertEqual(row, list(other))
        self.assertEqual(len(places), unlike_pairs(one, other))
        self.assertEqual(distance(net, one, other), len(places))

    def test_small_nets(self):
        chance = random.Random(5)
        for net, schedules, _ in small_nets():
            pairs = list(itertools.product(schedules, repeat=2))
            for one, other in pairs if len(pairs) <= 100 else chance.sample(pairs, 60):
                self.check(net, one, other)

    def test_lists_and_tuples(self):
        net = Net.read("a\nb\nc < a|b")
        for one, other in itertools.product(schedules_of(net), repeat=2):
            for kinds in itertools.product((list, tuple), repeat=2):
                self.check(net, kinds[0](one), kinds[1](other))

    def test_what_is_passed_stays(self):
        net = Net.read("a\nb\nc < a|b")
        one, other = ["a", "b", "c"], ["b", "c", "a"]
        self.assertEqual(swaps(net, one, other), [0, 1])
        self.assertEqual((one, other), (["a", "b", "c"], ["b", "c", "a"]))
        first = swaps(net=net, one=one, other=other)
        first.append(0)
        self.assertEqual(swaps(net, one, other), [0, 1])
        self.assertEqual(distance(net=net, one=one, other=other), 2)

    def test_the_same_one(self):
        for net, schedules, _ in small_nets():
            for row in schedules[:20]:
                self.assertEqual((swaps(net, row, row), distance(net, row, row)), ([], 0))
        row = ["a", "b"]
        self.assertEqual(swaps(Net({"a": [], "b": []}), row, row), [])

    def test_no_events(self):
        self.assertEqual((swaps(Net({}), (), []), distance(Net({}), [], ())), ([], 0))

    def test_wide_nets(self):
        chance = random.Random(3)
        for net in wide_nets().values():
            for _ in range(3):
                self.check(net, any_schedule(net, chance), any_schedule(net, chance))

    def test_as_far_as_can_be(self):
        net = wide_nets()["loose"]
        self.check(net, net.events, net.events[::-1])
        self.assertEqual(distance(net, net.events, net.events[::-1]), 1770)


class Refused(unittest.TestCase):
    def check(self, net, row, at):
        """Passes a row as either of the two, and as both."""
        whole = schedules_of(net)[0]
        for call in (swaps, distance):
            for one, other in ((row, whole), (whole, row), (row, row), (tuple(row), whole), (whole, tuple(row))):
                error = raised(NoSchedule, call, net, one, other)
                self.assertEqual((error.at, error.at.__class__), (at, int))

    def test_entries_that_are_not_ready(self):
        net = Net.read("a\nb\nc < a|b\nd < c a\nn < n")
        for row, at in (("c a b d", 0), ("a d b c", 1), ("b c d a", 2), ("a b d c", 2), ("n a b c d", 0),
                        ("a n b c d", 1), ("a b c n d", 3), ("d c b a", 0)):
            self.check(net, row.split(), at)

    def test_entries_that_came_already(self):
        net = Net.read("a\nb\nc < a|b\nd < c a\nn < n")
        for row, at in (("a a b c d", 1), ("a b a c d", 2), ("a c a b d", 2), ("a b c d d", 4), ("a b c d a", 4)):
            self.check(net, row.split(), at)

    def test_entries_behind_the_last_one(self):
        net = Net.read("a\nb\nc < a|b\nd < c a\nn < n")
        for row, at in (("a b c d n", 4), ("a b c d z", 4), ("a b c d a b", 4)):
            self.check(net, row.split(), at)
        self.check(Net({}), ["a"], 0)
        self.check(Net.read("n < n"), ["n"], 0)

    def test_missing_entries(self):
        net = Net.read("a\nb\nc < a|b\nd < c a\nn < n")
        for row in ("", "a", "b", "a b", "a c", "a b c", "a c d"):
            self.check(net, row.split(), len(row.split()))

    def test_no_events(self):
        net = Net.read("a\nb\nc < a|b")
        for value in strange_values("a") + ["z", "a b", ["a"], ()]:
            self.check(net, [value, "a", "b", "c"], 0)
            self.check(net, ["a", value, "c"], 1)
            self.check(net, ["a", "c", value], 2)
            self.check(net, ["a", "b", "c", value], 3)

    def test_each_row_of_events(self):
        for net, schedules, _ in small_nets():
            if len(net) > 5 or not net.events:
                continue
            for many in range(len(net) + 2):
                for row in itertools.product(net.events + ("z",), repeat=many):
                    at = 0
                    while at < len(row) and row[at] in ready_of(net, row[:at]):
                        at += 1
                    if row in schedules:
                        self.assertEqual(distance(net, row, row), 0)
                    else:
                        self.assertEqual(raised(NoSchedule, swaps, net, schedules[0], row).at, at)
            break

    def test_the_first_one_is_refused_first(self):
        net = Net.read(TEXT)
        whole = schedules_of(net)[0]
        for call in (swaps, distance):
            self.assertEqual(raised(NoSchedule, call, net, whole[:3], ["z"]).at, 3)
            self.assertEqual(raised(NoSchedule, call, net, ["z"], whole[:3]).at, 0)
            self.assertEqual(raised(NoSchedule, call, net, [], ["z"]).at, 0)
            self.assertEqual(raised(NoSchedule, call, net, whole[:1] + ("z",), []).at, 1)
            self.assertEqual(raised(NoSchedule, call, net, whole, whole[:2] + ("z",)).at, 2)


if __name__ == "__main__":
    unittest.main()
