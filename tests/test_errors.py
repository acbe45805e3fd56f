"""Point 2 and the interface of farmisses/errors.py."""

import inspect
import unittest

from farmisses import errors

FIELDS = {
    "InvalidText": "value",
    "InvalidSyntax": "position",
    "InvalidTree": "value",
    "DuplicateName": "name",
    "UnknownName": "name",
    "TooLarge": "word",
    "TooMany": "word",
    "InvalidNumber": "value",
    "InvalidCache": "value",
    "OutOfRange": "access",
    "InvalidOrder": "value",
    "InvalidBlocks": "value",
    "Uneven": "name",
    "InvalidWeights": "value",
    "InvalidEvent": "value",
    "InvalidQuestion": "position",
    "InvalidCommand": "word",
}
VALUES = [None, True, 0, -3, 10 ** 5000, "", "numbers", b"x", (1, "a"), [1, [2]], {"k": 1}, {1},
          object(), ValueError("inner"), len]


class ErrorsTest(unittest.TestCase):

    def test_seventeen_direct_subclasses(self):
        self.assertEqual(len(FIELDS), 17)
        for name in FIELDS:
            self.assertEqual(getattr(errors, name).__bases__, (errors.FarError,), name)
        self.assertEqual(errors.FarError.__bases__, (ValueError,))
        self.assertEqual(sorted(kind.__name__ for kind in errors.FarError.__subclasses__()),
                         sorted(FIELDS))

    def test_none_is_a_subclass_of_another(self):
        for one in FIELDS:
            for other in FIELDS:
                related = issubclass(getattr(errors, one), getattr(errors, other))
                self.assertEqual(related, one == other, (one, other))

    def test_limit_exceeded_is_no_far_error(self):
        self.assertEqual(errors.LimitExceeded.__bases__, (RuntimeError,))
        self.assertFalse(issubclass(errors.LimitExceeded, ValueError))
        self.assertFalse(issubclass(errors.FarError, RuntimeError))

    def test_defined_in_their_file(self):
        for name in [*FIELDS, "FarError", "LimitExceeded"]:
            self.assertEqual(getattr(errors, name).__module__, "farmisses.errors")

    def test_field_holds_the_argument(self):
        for name, field in [*FIELDS.items(), ("LimitExceeded", "word")]:
            kind = getattr(errors, name)
            self.assertEqual(list(inspect.signature(kind).parameters), [field], name)
            for value in VALUES:
                self.assertIs(getattr(kind(value), field), value, name)
                self.assertIs(getattr(kind(**{field: value}), field), value, name)

    def test_exactly_one_argument(self):
        for name in [*FIELDS, "LimitExceeded"]:
            kind = getattr(errors, name)
            with self.assertRaises(TypeError):
                kind()
            with self.assertRaises(TypeError):
                kind(1, 2)
            with self.assertRaises(TypeError):
                kind(other=1)

    def test_raised_and_caught(self):
        for name, field in FIELDS.items():
            with self.assertRaises(ValueError) as caught:
                raise getattr(errors, name)("it")
            self.assertEqual(getattr(caught.exception, field), "it")
        with self.assertRaises(RuntimeError) as caught:
            raise errors.LimitExceeded("steps")
        self.assertEqual(caught.exception.word, "steps")


if __name__ == "__main__":
    unittest.main()
