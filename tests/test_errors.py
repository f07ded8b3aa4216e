"""All errors of the document: their fields, and which derives from which."""

import inspect
import unittest

from offscale import errors

# The fields of each error, in their order.
SLIDE_ERRORS = {
    "NoFraction": (),
    "BadForm": (),
    "BadRule": ("word",),
    "NoStretch": ("stretch",),
    "NoMantissa": ("value",),
    "NoPosition": ("value",),
    "BadWorking": ("error",),
    "Misfit": ("number", "word"),
    "BadText": ("place",),
    "TooMany": ("limit",),
    "BadWish": ("word",),
    "BadFeatures": ("index",),
    "BadBook": (),
    "Off": ("number",),
    "BadName": ("name",),
    "NotRule": (),
    "Unkept": ("name",),
    "Full": (),
    "Busy": (),
    "NothingToUndo": (),
}
LOOKUP_ERRORS = {
    "Missing": ("name",),
    "NoScale": ("name",),
    "NoWorking": ("name",),
}
ALL_ERRORS = {**SLIDE_ERRORS, **LOOKUP_ERRORS}

# As fields: each kind of any value, and objects that are equal but not the same.
VALUES = (
    0,
    1,
    True,
    False,
    None,
    "",
    "scales",
    -(10 ** 39),
    (),
    (1, 2),
    [1, [2, (3,)]],
    [],
    {},
    {"x": (1, 2), 3: [None]},
    object(),
    10 ** 5000,
)


def found(name):
    return getattr(errors, name)


class ClassesTest(unittest.TestCase):
    def test_all_are_here(self):
        here = {
            name
            for name, value in vars(errors).items()
            if inspect.isclass(value) and issubclass(value, BaseException)
        }
        self.assertEqual(here, set(ALL_ERRORS) | {"SlideError"})

    def test_defined_in_this_file(self):
        for name in [*ALL_ERRORS, "SlideError"]:
            with self.subTest(name=name):
                self.assertEqual(found(name).__module__, "offscale.errors")
                self.assertEqual(found(name).__name__, name)

    def test_base(self):
        self.assertTrue(issubclass(errors.SlideError, ValueError))
        self.assertFalse(issubclass(errors.SlideError, LookupError))

    def test_slide_errors(self):
        for name in SLIDE_ERRORS:
            with self.subTest(name=name):
                self.assertTrue(issubclass(found(name), errors.SlideError))
                self.assertTrue(issubclass(found(name), ValueError))
                self.assertFalse(issubclass(found(name), LookupError))

    def test_lookup_errors(self):
        for name in LOOKUP_ERRORS:
            with self.subTest(name=name):
                self.assertTrue(issubclass(found(name), LookupError))
                self.assertFalse(issubclass(found(name), ValueError))
                self.assertFalse(issubclass(found(name), errors.SlideError))

    def test_none_derives_from_another(self):
        for name in ALL_ERRORS:
            for other in ALL_ERRORS:
                if name != other:
                    with self.subTest(name=name, other=other):
                        self.assertFalse(issubclass(found(name), found(other)))

    def test_base_derives_from_none(self):
        for name in ALL_ERRORS:
            with self.subTest(name=name):
                self.assertFalse(issubclass(errors.SlideError, found(name)))


class FieldsTest(unittest.TestCase):
    def check(self, name, passed):
        error = found(name)(*passed)
        fields = ALL_ERRORS[name]
        self.assertEqual(tuple(vars(error)), fields)
        for field, value in zip(fields, passed):
            self.assertIs(getattr(error, field), value)

    def test_without_fields(self):
        for name, fields in ALL_ERRORS.items():
            if not fields:
                with self.subTest(name=name):
                    self.check(name, ())

    def test_one_field(self):
        for name, fields in ALL_ERRORS.items():
            if len(fields) == 1:
                for index, value in enumerate(VALUES):
                    with self.subTest(name=name, index=index):
                        self.check(name, (value,))

    def test_two_fields(self):
        for first in VALUES:
            for second in VALUES:
                self.check("Misfit", (first, second))

    def test_each_error_has_its_own_fields(self):
        for name, fields in ALL_ERRORS.items():
            if fields:
                with self.subTest(name=name):
                    first = found(name)(*[["one"] for _ in fields])
                    second = found(name)(*[["two"] for _ in fields])
                    for field in fields:
                        self.assertEqual(getattr(first, field), ["one"])
                        self.assertEqual(getattr(second, field), ["two"])

    def test_fields_must_all_be_passed(self):
        for name, fields in ALL_ERRORS.items():
            if fields:
                with self.subTest(name=name):
                    self.assertRaises(TypeError, found(name), *fields[1:])
                    self.assertRaises(TypeError, found(name), *fields, "more")

    def test_the_base_can_be_raised(self):
        with self.assertRaises(errors.SlideError) as caught:
            raise errors.SlideError()
        self.assertEqual(vars(caught.exception), {})

    def test_raised_and_caught_with_fields(self):
        for name, fields in ALL_ERRORS.items():
            with self.subTest(name=name):
                passed = [[field] for field in fields]
                with self.assertRaises(found(name)) as caught:
                    raise found(name)(*passed)
                for field, value in zip(fields, passed):
                    self.assertIs(getattr(caught.exception, field), value)


if __name__ == "__main__":
    unittest.main()
