"""Points [2] and [21]: what tales tell, and how."""

import unittest

from helper import raised, read, story, told
from lateyields.errors import TooLong, Unknown
from lateyields.tales import Tale

SHORT = ("walk w; guard; give; late; wait g; say l; end; end; "
         "job main; say b; say a; say b; open z; open a; open z; begin main; begin b; begin b; "
         "each w dropped 1; end; guard; wait h; late; fail x; end; end; job b; wait k; end")


class Tells(unittest.TestCase):
    def setUp(self):
        self.tale = told(SHORT)

    def test_program(self):
        self.assertTrue(self.tale.program == read(SHORT))

    def test_events(self):
        self.assertEqual(self.tale.events, ("b.0", "b.1", "end", "main.0", "main.1", "main.2", "main/1.0", "main/1.1"))

    def test_notes(self):
        self.assertEqual(self.tale.notes("main.0"), ("b", "a", "b"))
        self.assertEqual(self.tale.notes("main/1.1"), ("l",))
        self.assertEqual(self.tale.notes("end"), ())
        self.assertEqual(self.tale.notes(event="b.0"), ())

    def test_opens(self):
        self.assertEqual(self.tale.opens("main.0"), ("a", "z"))
        self.assertEqual(self.tale.opens(event="main.1"), ())

    def test_begins(self):
        self.assertEqual(self.tale.begins("main.0"), ("b", "main"))
        self.assertEqual(self.tale.begins(event="b.0"), ())

    def test_opens_and_begins_whatever_was_before(self):
        tale = told("job main; open g; begin b; pause; open g; begin b; open c; end; job b; begin b; open g; end")
        for event, opened in (("main.0", ("g",)), ("main.1", ("c", "g")), ("b.0", ("g",))):
            self.assertEqual((tale.opens(event), tale.begins(event)), (opened, ("b",)))

    def test_opens_of_walks(self):
        tale = told("walk w; open g; begin b; give; end; job main; each w closed; end; end; job b; end")
        self.assertEqual((tale.opens("main.0"), tale.begins("main.0")), (("g",), ("b",)))

    def test_drops(self):
        self.assertEqual(self.tale.drops("main.0"), ("main/1",))
        self.assertEqual(self.tale.drops(event="end"), ())

    def test_drops_ascend_as_strings(self):
        walks = "".join("walk " + name + "; give; end; " for name in "abcdef")
        rows = "".join("each " + name + " kept 1; end; " for name in "abcdef")
        tale = told(walks + "job main; repeat 5; each a dropped 1; end; end; " + rows + "end")
        self.assertEqual(tale.drops("end"), ("main/10", "main/11", "main/6", "main/7", "main/8", "main/9"))

    def test_outcomes(self):
        self.assertEqual(self.tale.outcomes(), {"main": "stopped x", "main/1": "ended", "b": "stopped"})

    def test_stuck(self):
        self.assertEqual(self.tale.stuck(), {"main": "h", "main/1": "g", "b": "k"})
        self.assertEqual(told("job main; pause; end").stuck(), {})

    def test_cleanups(self):
        self.assertEqual(self.tale.cleanups(), [("main.2", "main.2", False), ("main/1.0", "main/1.1", True)])

    def test_cleanups_ascend(self):
        tale = told("job main; begin b; guard; pause; late; guard; late; pause; fail x; end; end; end; "
                    "job b; guard; late; guard; late; end; pause; end; end")
        self.assertEqual(tale.cleanups(), [("b.0", "b.0", True), ("b.0", "b.1", True), ("main.1", "main.2", False),
                                           ("main.1", "main.2", False)])

    def test_cleanups_ascend_as_tuples(self):
        tale = told("job main; repeat 2; guard; guard; late; fail x; end; late; end; end; end")
        self.assertEqual(tale.cleanups(), [("main.0", "main.0", False), ("main.0", "main.0", True)])
        tale = told("job main; guard; guard; mend; end; late; end; guard; late; fail x; end; end")
        self.assertEqual(tale.cleanups(), [("main.0", "main.0", False), ("main.0", "main.0", True)])

    def test_by_name(self):
        self.assertEqual(story(Tale(program=read("job main; say a; end"))), "end, main.0 a")


class UnknownEvents(unittest.TestCase):
    def test_each_method(self):
        tale = told(SHORT)
        for method in (tale.notes, tale.opens, tale.begins, tale.drops):
            for event in ("", "main", "main.3", "main.00", "main.0 ", "b.2", "End", "c.0", "main/1", "main/2.0", None,
                          0, True, 1.5, b"end", ("end",), ["end"], {"end": 1}, {"end"}, object(), tale):
                error = raised(Unknown, method, event)
                self.assertTrue(error.name == event)

    def test_values_that_are_like_events(self):
        class Like:
            def __eq__(self, other):
                return True

            def __hash__(self):
                return hash("end")

        self.assertRaises(Unknown, told(SHORT).notes, Like())


class NewValues(unittest.TestCase):
    def test_lists_and_dicts_are_new(self):
        tale = told(SHORT)
        for method in (tale.outcomes, tale.stuck, tale.cleanups):
            first, second = method(), method()
            self.assertEqual(first, second)
            self.assertIsNot(first, second)
            first.clear()
            self.assertEqual(method(), second)
            self.assertNotEqual(method(), first)

    def test_tuples(self):
        tale = told(SHORT)
        self.assertIs(tale.events.__class__, tuple)
        for method in (tale.notes, tale.opens, tale.begins, tale.drops):
            for event in tale.events:
                self.assertIs(method(event).__class__, tuple)
                self.assertEqual(method(event), method(event))
        for cleanup in tale.cleanups():
            self.assertIs(cleanup.__class__, tuple)
            self.assertIs(cleanup[2].__class__, bool)

    def test_equal_programs_have_equal_tales(self):
        one, other = told(SHORT), told(SHORT)
        self.assertEqual((story(one), one.outcomes(), one.cleanups(), one.stuck()),
                         (story(other), other.outcomes(), other.cleanups(), other.stuck()))

    def test_the_program_is_not_changed(self):
        program = read(SHORT)
        first = Tale(program)
        self.assertEqual(story(Tale(program)), story(first))
        self.assertTrue(program == read(SHORT))


# Carries out 1 + 9 + 81 + 243 rows.
LOOP = "repeat 9; repeat 9; repeat 3; say a; end; end; end"
LOOP_ROWS = 334


def says(many):
    return "; ".join(["say a"] * many)


class Long(unittest.TestCase):
    def exactly(self, short, many):
        """Whether `short` carries out just so many rows, besides those that are put in the place of its `#`."""
        left = 400 - many - LOOP_ROWS
        told(short.replace("#", LOOP + "; " + says(left)))
        raised(TooLong, told, short.replace("#", LOOP + "; " + says(left + 1)))

    def test_400_rows(self):
        told("job main; " + LOOP + "; " + says(66) + "; end")
        raised(TooLong, told, "job main; " + LOOP + "; " + says(67) + "; end")

    def test_each_row_counts_each_time(self):
        self.exactly("job main; say a; pause; open g; wait g; begin main; #; fail x; end", 6)

    def test_rows_that_do_not_count(self):
        self.exactly("walk w; end; job main; #; end; job b; say a; end", 0)
        self.exactly("job main; #; guard; say a; late; say a; end; end", 3)
        self.exactly("job main; #; guard; fail x; mend; say a; end; guard; mend; say a; end; end", 4)

    def test_blocks_count_when_they_are_begun(self):
        self.exactly("job main; #; repeat 5; end; end", 1)
        self.exactly("job main; #; repeat 5; say a; end; end", 6)
        self.exactly("job main; #; repeat 5; repeat 2; end; end; end", 6)
        self.exactly("walk w; give; give; say a; end; job main; #; each w closed; say a; end; end", 6)

    def test_closings_count(self):
        for how in ("closed", "dropped", "kept"):
            self.exactly("walk w; guard; give; say a; late; say b; pause; end; end; "
                         "job main; each w " + how + " 1; end; #; end", 5)

    def test_other_jobs_and_rows_behind_the_end_count(self):
        self.exactly("job main; begin b; wait g; say a; end; job b; #; end", 2)
        self.exactly("job main; guard; wait g; late; begin b; #; end; say a; end; job b; say a; end", 4)

    def test_a_row_waited_at_counts_once(self):
        self.exactly("job main; begin b; wait g; #; end; job b; pause; pause; open g; end", 5)

    def test_great_programs(self):
        raised(TooLong, told, "job main; " + "repeat 9; " * 6 + "say a; " + "end; " * 6 + "end")
        raised(TooLong, told, "job main; " + "repeat 9; " * 6 + "end; " * 6 + "end")
        walks = "walk a; " + "repeat 9; " * 6 + "give; " + "end; " * 6 + "end; "
        raised(TooLong, told, walks + "job main; each a closed; end; end")

    def test_by_name(self):
        raised(TooLong, Tale, program=read("job main; repeat 9; " + LOOP + "; end; end"))
