import inspect
import unittest

from pairbinds import errors
from pairbinds.shapes import Shape

# name, direct base class, parameters in their order
CLASSES = (
    ("InvalidWord", "BindError", ("given",)),
    ("InvalidText", "BindError", ("at",)),
    ("InvalidShape", "BindError", ("given",)),
    ("InvalidName", "BindError", ("given",)),
    ("InvalidKind", "BindError", ("given",)),
    ("InvalidSide", "BindError", ("given",)),
    ("InvalidTree", "BindError", ("path",)),
    ("InvalidNumber", "BindError", ("given",)),
    ("InvalidCommand", "BindError", ("at",)),
    ("InvalidLimit", "BindError", ("given",)),
    ("InvalidPage", "BindError", ("row",)),
    ("DuplicateName", "BindError", ("name",)),
    ("WrongKind", "BindError", ("name",)),
    ("Shared", "BindError", ("word",)),
    ("Ring", "BindError", ("ring",)),
    ("Unfit", "BindError", ("path",)),
    ("NoReading", "BindError", ("at",)),
    ("TwoReadings", "BindError", ("text",)),
    ("Unlike", "BindError", ()),
    ("TooMany", "BindError", ("subject", "most")),
    ("Circular", "BindError", ("name",)),
    ("InUse", "BindError", ("user",)),
    ("Full", "BindError", ("most",)),
    ("UnknownName", "Missing", ("name",)),
    ("NothingLeft", "IndexError", ()),
)
BASES = {
    "BindError": errors.BindError, "Missing": errors.Missing, "IndexError": IndexError,
}
VALUES = (
    None, True, False, 0, 7, -3, "", "sum", "_ + _", "a\nb", (), (0, 1), ("a", "b"), [], ["a", [1, None]],
    (["a"], ("b",)), ("a", ["infix", True]),
)


def class_of(name):
    return getattr(errors, name)


class TestClasses(unittest.TestCase):
    def test_bases_of_all(self):
        self.assertEqual(errors.BindError.__bases__, (ValueError,))
        self.assertEqual(errors.Missing.__bases__, (LookupError,))
        for name, base, _ in CLASSES:
            self.assertEqual(class_of(name).__bases__, (BASES[base],), name)

    def test_there_are_no_other_classes(self):
        found = {name for name, value in vars(errors).items() if inspect.isclass(value)}
        self.assertEqual(found, {name for name, _, _ in CLASSES} | {"BindError", "Missing"})

    def test_defined_in_this_file_by_their_names(self):
        for name in [row[0] for row in CLASSES] + ["BindError", "Missing"]:
            self.assertEqual(class_of(name).__module__, "pairbinds.errors")
            self.assertEqual(class_of(name).__name__, name)

    def test_no_class_is_under_another_one(self):
        names = [row[0] for row in CLASSES]
        for name in names:
            for other in names:
                self.assertEqual(issubclass(class_of(name), class_of(other)), name == other)
        self.assertFalse(issubclass(errors.Missing, ValueError))
        self.assertFalse(issubclass(errors.BindError, LookupError))
        self.assertFalse(issubclass(errors.NothingLeft, (errors.BindError, errors.Missing)))

    def test_parameters(self):
        for name, _, parameters in CLASSES:
            found = inspect.signature(class_of(name)).parameters
            self.assertEqual(tuple(found), parameters, name)
            for parameter in found.values():
                self.assertIs(parameter.kind, parameter.POSITIONAL_OR_KEYWORD)
                self.assertIs(parameter.default, parameter.empty)

    def test_base_classes_themselves_can_be_raised(self):
        for base in (errors.BindError, errors.Missing):
            with self.assertRaises(base) as caught:
                raise base("told")
            self.assertFalse(hasattr(caught.exception, "code"))


class TestObjects(unittest.TestCase):
    def made(self, name, parameters, value):
        by_position = class_of(name)(*[value for _ in parameters])
        by_name = class_of(name)(**{parameter: value for parameter in parameters})
        return by_position, by_name

    def test_attributes_are_what_was_given(self):
        for name, _, parameters in CLASSES:
            for value in VALUES:
                for error in self.made(name, parameters, value):
                    for parameter in parameters:
                        self.assertEqual(getattr(error, parameter), value)
                        self.assertIs(type(getattr(error, parameter)), type(value))

    def test_code_is_the_name_of_the_class(self):
        for name, _, parameters in CLASSES:
            for error in self.made(name, parameters, "a"):
                self.assertEqual(error.code, name)
                self.assertEqual(error.code, type(error).__name__)

    def test_attributes_are_set_on_each_object(self):
        for name, _, parameters in CLASSES:
            error = class_of(name)(*["a" for _ in parameters])
            self.assertEqual(set(vars(error)), {"code", *parameters})

    def test_two_parameters_in_their_order(self):
        error = errors.TooMany("groups", 12)
        self.assertEqual((error.subject, error.most), ("groups", 12))
        error = errors.TooMany(most=14, subject="words")
        self.assertEqual((error.subject, error.most), ("words", 14))

    def test_each_can_be_raised_and_has_a_message(self):
        for name, base, parameters in CLASSES:
            with self.assertRaises(BASES[base]) as caught:
                raise class_of(name)(*["a" for _ in parameters])
            self.assertIs(type(caught.exception), class_of(name))
            self.assertTrue(str(caught.exception))

    def test_lists_are_copied(self):
        for name, _, parameters in CLASSES:
            inner = ["a"]
            whole = [inner, (inner,)]
            error = class_of(name)(*[whole for _ in parameters])
            inner.append("b")
            whole.append("c")
            for parameter in parameters:
                self.assertEqual(getattr(error, parameter), [["a"], (["a"],)])

    def test_a_raised_error_keeps_what_was_given(self):
        given = ["_", ["+"], "_"]
        with self.assertRaises(errors.InvalidShape) as caught:
            Shape(given)
        self.assertEqual(given, ["_", ["+"], "_"])
        given[1].append("-")
        self.assertEqual(caught.exception.given, ["_", ["+"], "_"])


if __name__ == "__main__":
    unittest.main()
