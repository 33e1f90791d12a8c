"""Point [41]: shelves, which hold nets by names."""

import unittest

from helper import Like, raised, read, strange_values, text_of
from lateyields.errors import BadRow, LateError, NoCommand, TooLong, TooMany, Unknown
from lateyields.nets import Net
from lateyields.shelf import Shelf
from some_nets import TEXT, WAYS

PROGRAM = "walk w; guard; give; late; say l; end; end; job main; each w dropped 1; end; say a; end"


def put(shelf, name, value):
    shelf[name] = value


def take(shelf, name):
    return shelf[name]


class Put(unittest.TestCase):
    def test_nothing(self):
        shelf = Shelf()
        self.assertEqual((shelf.names, len(shelf), "a" in shelf), ((), 0, False))

    def test_a_net(self):
        shelf = Shelf()
        net = Net.read(TEXT)
        shelf["some"] = net
        self.assertTrue(shelf["some"] == net)
        self.assertEqual((shelf.names, len(shelf), "some" in shelf), (("some",), 1, True))

    def test_a_program(self):
        shelf = Shelf()
        shelf["p"] = read(PROGRAM)
        self.assertIs(shelf["p"].__class__, Net)
        self.assertTrue(shelf["p"] == Net.of(read(PROGRAM)))

    def test_a_text_of_a_net(self):
        shelf = Shelf()
        for text in (TEXT, WAYS, "", "a", "jobs x", "walk", "walks.0 x", "job", "job\nwalk < job", "a\njob x < a"):
            shelf["t"] = text
            self.assertIs(shelf["t"].__class__, Net)
            self.assertTrue(shelf["t"] == Net.read(text))

    def test_a_text_of_a_program(self):
        shelf = Shelf()
        for short in (PROGRAM, "job main; end", "walk w; end; job main; say a; end"):
            shelf["t"] = text_of(short)
            self.assertTrue(shelf["t"] == Net.of(read(short)))

    def test_the_text_of_a_net_that_begins_like_a_program(self):
        for text in ("job x", "walk x y", "job < a\na", "walk x\na", "job x\nb"):
            shelf = Shelf()
            self.assertEqual(Net.read(text).events[-1][:3], text[:3])
            raised(BadRow, put, shelf, "t", text)
            self.assertEqual(len(shelf), 0)
            shelf["t"] = Net.read(text)
            self.assertEqual(str(shelf["t"]).count("\n"), text.count("\n"))

    def test_again_under_the_same_name(self):
        shelf = Shelf()
        for value in (Net.read(TEXT), "a x", read(PROGRAM), text_of("job main; end"), Net({})):
            shelf["n"] = value
            self.assertEqual((shelf.names, len(shelf)), (("n",), 1))
        self.assertTrue(shelf["n"] == Net({}))

    def test_names_ascend(self):
        shelf = Shelf()
        for name in ("n", "b", "zz", "a", "ab", "n"):
            shelf[name] = "a"
        self.assertEqual((shelf.names, len(shelf)), (("a", "ab", "b", "n", "zz"), 5))
        self.assertIs(shelf.names.__class__, tuple)

    def test_a_tuple_of_names_stays(self):
        shelf = Shelf()
        before = shelf.names
        shelf["n"] = "a"
        self.assertEqual((before, shelf.names), ((), ("n",)))

    def test_two_shelves(self):
        one, other = Shelf(), Shelf()
        one["a"] = "x"
        other["b"] = "y"
        one["c"] = other["b"]
        self.assertEqual((one.names, other.names), (("a", "c"), ("b",)))
        self.assertFalse("a" in other or "b" in one)
        raised(Unknown, take, other, "a")
        one["c"] = "z"
        self.assertEqual((str(one["c"]), str(other["b"])), ("z", "y"))


class Refused(unittest.TestCase):
    def setUp(self):
        self.shelf = Shelf()
        self.shelf["n"] = "a x\nb"
        self.shelf["m"] = "c"

    def tearDown(self):
        self.assertEqual((self.shelf.names, len(self.shelf)), (("m", "n"), 2))
        self.assertEqual((str(self.shelf["n"]), str(self.shelf["m"])), ("a x\nb", "c"))

    def unlike_names(self):
        return strange_values("n") + ["job", "walk", "end", "kept", "say", "abcdefghi", "a1", "a b", "N", "a.0", "n\n"]

    def test_no_name(self):
        for name in self.unlike_names():
            for value in (Net({}), "a", read(PROGRAM), None, 1, "a a a <", "job x", name):
                found = raised(Unknown, put, self.shelf, name, value).name
                self.assertTrue(found is name or (found.__class__, found) == (name.__class__, name))

    def test_no_value(self):
        for name in ("n", "new"):
            for value in (None, True, 0, 1.5, b"a", ["a"], ("a",), {"a": []}, {"a"}, object(), Shelf(), Net, Like("a"),
                          [["a"]], self.shelf):
                found = raised(NoCommand, put, self.shelf, name, value).row
                self.assertTrue(found is value or (found.__class__, found) == (value.__class__, value))
        value = [["a"]]
        row = raised(NoCommand, put, self.shelf, "n", value).row
        value[0].append("b")
        self.assertEqual(row, [["a"]])

    def test_what_reading_raises(self):
        for name in ("n", "new"):
            self.assertEqual(raised(BadRow, put, self.shelf, name, "a\n\nb").at, 1)
            self.assertEqual(raised(BadRow, put, self.shelf, name, "a\nb\na").at, 2)
            self.assertEqual(raised(Unknown, put, self.shelf, name, "a < z|b\nb").name, "z")
            self.assertEqual(raised(BadRow, put, self.shelf, name, "job main\nsay").at, 1)
            self.assertEqual(raised(BadRow, put, self.shelf, name, "walk w\nend\njob main").at, 3)
            self.assertEqual(raised(Unknown, put, self.shelf, name, "job b\nend").name, "main")
            self.assertEqual(raised(Unknown, put, self.shelf, name, "job main\nbegin b\nend").name, "b")
            rows = ["job main"] + ["pause"] * 99 + ["end"]
            self.assertEqual(raised(TooMany, put, self.shelf, name, "\n".join(rows)).word, "rows")
            self.assertEqual(raised(BadRow, put, self.shelf, name, " job main\nend").at, 0)
            self.assertEqual(raised(BadRow, put, self.shelf, name, "jobs main <\nend").at, 0)

    def test_too_long(self):
        short = "job main; repeat 9; repeat 9; repeat 9; pause; end; end; end; end"
        raised(TooLong, put, self.shelf, "n", text_of(short))
        raised(TooLong, put, self.shelf, "new", read(short))

    def test_no_key(self):
        for name in self.unlike_names() + ["k", "nn", ""]:
            found = raised(Unknown, take, self.shelf, name).name
            self.assertTrue(found is name or (found.__class__, found) == (name.__class__, name))
            self.assertIs(name in self.shelf, False)
        self.assertFalse(issubclass(Unknown, LateError))


class Changes(unittest.TestCase):
    def test_the_net_cannot_be_changed_from_outside(self):
        needs = {"a": [], "b": [["a"]]}
        shelf = Shelf()
        shelf["n"] = Net(needs)
        needs["b"].append([])
        self.assertEqual(str(shelf["n"]), "a\nb < a")


if __name__ == "__main__":
    unittest.main()
