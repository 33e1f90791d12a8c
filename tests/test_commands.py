"""Point [42]: commands and their answers."""

import unittest

from helper import Like, raised, read, text_of
from lateyields.counts import schedule_at
from lateyields.errors import Never, NoCommand, NoSchedule, TooWide, Unknown
from lateyields.logs import least_log, parted
from lateyields.orders import order_of
from lateyields.shelf import Shelf
from lateyields.ways import blockers, ways
from some_nets import small_nets, wide

NET = "a x\nb\nc y < a|b\nd < a c\nn < n\ne x y < a"


def shelf_of(**values):
    shelf = Shelf()
    for name in values:
        shelf[name] = values[name]
    return shelf


class Answers(unittest.TestCase):
    def setUp(self):
        self.shelf = shelf_of(n=NET, none="", p=text_of("job main; say a; begin b; pause; end; job b; say b; end"),
                              m="z y x < y\ny x\nw y < y|z", same="c y x < a\na x\nb y < c|a", loose="a x\nb x")

    def check(self, **answers):
        for row, answer in answers.items():
            self.assertEqual(self.shelf(row.replace("_", " ")), answer)

    def test_count(self):
        for row, answer in (("count n", "17"), ("count none", "1"), ("count p", "2"), ("count m", "2"),
                            ("count loose", "2")):
            found = self.shelf(row)
            self.assertEqual((found, found.__class__), (answer, str))

    def test_at(self):
        for row, answer in (("at n 0", "a b c d e"), ("at n 1", "a b c e d"), ("at n 15", "b c a d e"), ("at n 16", "b c a e d"),
                            ("at none 0", ""), ("at p 0", "main.0 b.0 main.1 end"), ("at p 1", "main.0 main.1 b.0 end"),
                            ("at m 1", "y z w")):
            self.assertEqual(self.shelf(row), answer)

    def test_order(self):
        for row, answer in (("order n a d", "ahead"), ("order n d a", "behind"), ("order n a b", "loose"),
                            ("order n a a", "same"), ("order p b.0 main.1", "loose"), ("order p end main.0", "behind")):
            self.assertEqual(self.shelf(row), answer)

    def test_ways(self):
        for row, answer in (("ways n a", "a"), ("ways n c", "a+c b+c"), ("ways n d", "a+c+d"), ("ways n n", "none"),
                            ("ways p end", "b.0+end+main.0+main.1")):
            self.assertEqual(self.shelf(row), answer)

    def test_blockers(self):
        for row, answer in (("blockers n a", "none"), ("blockers n c", "a+b"), ("blockers n d", "a c"),
                            ("blockers n n", "-"), ("blockers p end", "b.0 main.0 main.1")):
            self.assertEqual(self.shelf(row), answer)

    def test_log(self):
        for row, answer in (("log n", "x x+y y"), ("log none", "-"), ("log p", "a b"), ("log m", "x y y+x"),
                            ("log loose", "x x")):
            self.assertEqual(self.shelf(row), answer)

    def test_same(self):
        for row, answer in (("same n n", "yes"), ("same n m", "no"), ("same none none", "yes"), ("same none n", "no"),
                            ("same n none", "no"), ("same m same", "yes"), ("same same m", "yes")):
            self.assertEqual(self.shelf(row), answer)
        self.shelf["same"] = "c y x < b\na x\nb y < a"
        self.assertEqual(self.shelf("same m same"), "no")
        self.shelf["m"] = "d x\nf y < d\ng y x < f d\nh < h"
        self.assertEqual(self.shelf("same m same"), "yes")

    def test_by_name(self):
        self.assertEqual(self.shelf(row="count n"), "17")

    def test_the_shelf_stays(self):
        before = self.shelf.names, [str(self.shelf[name]) for name in self.shelf.names]
        for row in ("count n", "at n 3", "ways n c", "log n", "same n m"):
            self.assertEqual(self.shelf(row), self.shelf(row))
        raised(NoSchedule, self.shelf, "at n 99")
        self.assertEqual((self.shelf.names, [str(self.shelf[name]) for name in self.shelf.names]), before)

    def test_some_nets(self):
        for (net, schedules, _), (other, _, _) in zip(small_nets()[::3], small_nets()[1::3]):
            shelf = shelf_of(one=net, other=other)
            self.assertEqual(shelf("count one"), str(len(schedules)))
            for number in (0, len(schedules) - 1):
                self.assertEqual(shelf("at one " + str(number)), " ".join(schedule_at(net, number)))
            for event in net.events:
                rows = ["+".join(row) for row in ways(net, event)]
                self.assertEqual(shelf("ways one " + event), " ".join(rows) or "none")
                rows = ["+".join(row) or "-" for row in blockers(net, event)]
                self.assertEqual(shelf("blockers one " + event), " ".join(rows) or "none")
                if event not in net.never:
                    first = schedules[0][0]
                    self.assertEqual(shelf("order one " + event + " " + first), order_of(net, event, first))
            self.assertEqual(shelf("log one"), " ".join("+".join(entry) for entry in least_log(net)) or "-")
            self.assertEqual(shelf("same one other"), "no" if parted(net, other) is not None else "yes")


class NoCommands(unittest.TestCase):
    def setUp(self):
        self.shelf = shelf_of(n=NET, m="a")

    def check(self, *rows):
        for row in rows:
            for shelf in (self.shelf, Shelf()):
                found = raised(NoCommand, shelf, row).row
                self.assertTrue(found is row or (found.__class__, found) == (row.__class__, row))

    def test_other_words(self):
        self.check("", " ", "n", "counts n", "Count n", "COUNT n", "cnt n", "same", "-", "earliest n a", "put n", "at",
                   "order", "names", "names n", "cut n", "read a", "count/ n", "+", "count-n", "count,n")

    def test_words_more_or_less(self):
        self.check("count", "count n n", "count n 0", "at n", "at 0", "at n 0 0", "order n a", "order n", "order n a b c",
                   "order a", "ways n", "ways", "ways n a a", "blockers", "blockers n", "blockers n a b", "log",
                   "log n n", "log n a", "same", "same n", "same n n n", "same n m m")

    def test_blanks(self):
        for row in ("count n", "at n 0", "order n a b", "ways n a", "blockers n a", "log n", "same n m"):
            self.shelf(row)
            self.check(" " + row, row + " ", row.replace(" ", "  ", 1), row.replace(" ", "\t"), "  " + row, row + "  ",
                       row.replace(" ", ""), row[::-1].replace(" ", "  ", 1)[::-1], row.replace(" ", "\u00a0"))
        self.check("order n a ", "order n  b", "ways n ", "at n ", "same n ", "same  n", "count ", "log ")

    def test_figures(self):
        for part in ("00", "01", "-1", "+1", "1.0", "1e1", "a", "0x1", "1_0", "1,0", "-0", "1234567890123",
                     "0000000000000", "1000000000000", "\u0661", "\u00b2", "1\u00b2", "O", "0 0", "l", "'0'"):
            self.check("at n " + part, "at z " + part)

    def test_figures_that_may_stand(self):
        for number in (17, 99, 123456789012, 999999999999, 100000000000):
            found = raised(NoSchedule, self.shelf, "at n " + str(number)).at
            self.assertEqual((found, found.__class__), (number, int))
        self.assertEqual(self.shelf("at n 10"), " ".join(schedule_at(self.shelf["n"], 10)))

    def test_names(self):
        for name in ("N", "n1", "n.", "abcdefghi", "job", "walk", "end", "say", "closed", "late", "n\u00e9", "n-", "0"):
            self.check("count " + name, "at " + name + " 0", "order " + name + " a b", "ways " + name + " a",
                       "blockers " + name + " a", "log " + name, "same n " + name, "same " + name + " n",
                       "same " + name + " " + name, "same z " + name)

    def test_newlines(self):
        for row in ("count n", "at n 0", "order n a b", "ways n a", "blockers n a", "log n", "same n m"):
            self.check(row + "\n", "\n" + row, row.replace(" ", "\n"), row[:-1] + "\n" + row[-1], row + "\n" + row)
        self.check("ways n a\n", "order n \n b", "order n a b\nc", "ways n \n", "\n")

    def test_other_values(self):
        self.check(None, True, False, 0, 1.5, b"count n", ("count", "n"), ["count", "n"], {"count": "n"}, {"count n"},
                   object(), Like("count n"), [], (), self.shelf, ["count n"])
        row = ["count", ["n"]]
        found = raised(NoCommand, self.shelf, row).row
        row[1].append("m")
        self.assertEqual(found, ["count", ["n"]])


class Refused(unittest.TestCase):
    def setUp(self):
        self.shelf = shelf_of(n=NET, m="a", wide=wide((1,) * 12), logs=wide((20, 19)))

    def test_names_that_are_not_there(self):
        for row, name in (("count z", "z"), ("at z 0", "z"), ("at z 99", "z"), ("order z a b", "z"), ("order z z z", "z"),
                          ("ways z z", "z"), ("blockers z a", "z"), ("log z", "z"), ("same z n", "z"), ("same n z", "z"),
                          ("same y z", "y"), ("same z y", "z"), ("same nn z", "nn"), ("same wide z", "z")):
            self.assertEqual(raised(Unknown, self.shelf, row).name, name)

    def test_what_is_called(self):
        for row, event in (("order n z a", "z"), ("order n a z", "z"), ("order n y z", "y"), ("order n n z", "z"),
                           ("ways n z", "z"), ("blockers n A", "A"), ("blockers n a|b", "a|b"), ("ways n a+c", "a+c"),
                           ("order n \t a", "\t"), ("ways n job", "job"), ("ways n " + "a" * 99, "a" * 99)):
            self.assertEqual(raised(Unknown, self.shelf, row).name, event)
        for row, event in (("order n n a", "n"), ("order n a n", "n"), ("order n n n", "n")):
            self.assertEqual(raised(Never, self.shelf, row).event, event)
        self.assertEqual(raised(NoSchedule, self.shelf, "at n 17").at, 17)
        self.assertEqual(raised(NoSchedule, self.shelf, "at m 1").at, 1)

    def test_too_wide(self):
        for row in ("count wide", "at wide 0", "at wide 999999999999", "ways wide r1.0", "blockers wide r1.0",
                    "log wide", "same wide n", "same n wide", "log logs", "same logs logs", "same m logs"):
            raised(TooWide, self.shelf, row)
        self.assertEqual(raised(Unknown, self.shelf, "ways wide z").name, "z")
        self.assertEqual(self.shelf("order wide r0.0 r1.0"), "loose")
        self.assertEqual(self.shelf("count logs"), "68923264410")

    def test_a_name_that_is_put_later(self):
        raised(Unknown, self.shelf, "count z")
        self.shelf["z"] = read("job main; end")
        self.assertEqual(self.shelf("count z"), "1")


if __name__ == "__main__":
    unittest.main()
