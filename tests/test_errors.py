"""Point [4]: the exceptions."""

import unittest

from lateyields import errors

# Each with the name of its attribute, or None if it has none.
LATE = {
    "BadRow": "at",
    "TooMany": "word",
    "TooLong": None,
    "TooWide": None,
    "NotReady": "event",
    "NoSchedule": "at",
    "Never": "event",
    "NoCut": "event",
    "OtherNet": None,
    "Taken": "name",
    "NoCommand": "row",
}


class Bases(unittest.TestCase):
    def test_late_error(self):
        self.assertEqual(errors.LateError.__bases__, (ValueError,))

    def test_each_is_derived_from_it_alone(self):
        for name in LATE:
            self.assertEqual(getattr(errors, name).__bases__, (errors.LateError,), name)

    def test_unknown(self):
        self.assertEqual(errors.Unknown.__bases__, (KeyError,))
        self.assertFalse(issubclass(errors.Unknown, (errors.LateError, ValueError)))


class Attributes(unittest.TestCase):
    def cases(self):
        cases = [(getattr(errors, name), attribute) for name, attribute in LATE.items() if attribute]
        return cases + [(errors.Unknown, "name")]

    def test_by_position_and_by_name(self):
        for kind, attribute in self.cases():
            for value in (3, "main.0", None, True, -1, (1, "a"), b"x", 10 ** 5000, [1], {"a": [2]}, "x" * 500):
                self.assertEqual(getattr(kind(value), attribute), value)
                self.assertEqual(getattr(kind(**{attribute: value}), attribute), value)

    def test_any_kind_is_kept(self):
        for kind, attribute in self.cases():
            for value in (object(), kind, len, {1, 2}, 1.5):
                self.assertIs(getattr(kind(value), attribute), value)

    def test_just_one_value(self):
        for kind, attribute in self.cases():
            self.assertRaises(TypeError, kind)
            self.assertRaises(TypeError, kind, 1, 2)
            self.assertRaises(TypeError, kind, wrong=1)

    def test_those_without_values(self):
        for name, attribute in LATE.items():
            if attribute is None:
                error = getattr(errors, name)()
                self.assertEqual(vars(error), {})
                self.assertRaises(TypeError, getattr(errors, name), 1)

    def test_a_value_that_cannot_tell_its_text(self):
        class Mute:
            def __repr__(self):
                raise RuntimeError

            __str__ = __repr__

        value = Mute()
        for kind, attribute in self.cases():
            self.assertIs(getattr(kind(value), attribute), value)

    def test_messages_tell_short_values(self):
        self.assertIn("7", str(errors.BadRow(7)))
        self.assertIn("main.3", str(errors.Unknown("main.3")))


class Copies(unittest.TestCase):
    def test_lists_and_dicts_are_copied(self):
        for kind, attribute in Attributes.cases(self):
            inner = [1]
            value = [inner, {"a": inner}, (inner, "b")]
            error = kind(value)
            inner.append(2)
            value.append(3)
            self.assertEqual(getattr(error, attribute), [[1], {"a": [1]}, ([1], "b")])

    def test_a_dict(self):
        value = {"a": {"b": []}}
        error = errors.NoCommand(row=value)
        value["a"]["b"].append(1)
        value["c"] = 2
        self.assertEqual(error.row, {"a": {"b": []}})

    def test_eight_within_one_another(self):
        innermost = []
        value = innermost
        for deep in range(7):
            value = [value] if deep % 2 else {"k": (value,)}
        error = errors.Unknown(value)
        innermost.append("late")
        found = error.name
        for deep in reversed(range(7)):
            found = found[0] if deep % 2 else found["k"][0]
        self.assertEqual(found, [])

    def test_eight_lists_and_eight_dicts(self):
        for around in (lambda inner: [inner], lambda inner: {"k": inner}, lambda inner: ([inner],)):
            innermost = {}
            value = innermost
            for _ in range(7):
                value = around(value)
            error = errors.NotReady(event=value)
            before = repr(error.event)
            innermost["late"] = 1
            self.assertEqual(repr(error.event), before)

    def test_somewhat_deeper_raises_nothing(self):
        value = []
        for _ in range(40):
            value = [value]
        self.assertEqual(errors.BadRow(value).at, value)

    def test_a_list_that_contains_itself(self):
        value = []
        value.append(value)
        self.assertEqual(len(errors.BadRow(value).at), 1)
