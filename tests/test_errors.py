import unittest

from joinedends import errors

WITH_ATTRIBUTE = {
    "Malformed": "index",
    "InvalidRule": "index",
    "BadStep": "number",
    "UnknownName": "name",
    "WrongArity": "name",
}
PLAIN = ["InvalidName", "InvalidArity", "Duplicate", "TooLarge", "StepLimit", "NoPosition",
         "NotFound", "Cyclic", "InvalidOrder"]


class ErrorsTest(unittest.TestCase):
    def test_the_base_class(self):
        self.assertEqual(errors.HallError.__bases__, (ValueError,))
        with self.assertRaises(ValueError):
            raise errors.HallError()

    def test_errors_with_an_attribute(self):
        for name, attribute in WITH_ATTRIBUTE.items():
            made = getattr(errors, name)
            self.assertEqual(made.__bases__, (errors.HallError,))
            for value in (0, 7, "f"):
                error = made(value)
                self.assertEqual(getattr(error, attribute), value)
                self.assertEqual(list(vars(error)), [attribute])

    def test_errors_without_attributes(self):
        for name in PLAIN:
            made = getattr(errors, name)
            self.assertEqual(made.__bases__, (errors.HallError,))
            self.assertEqual(vars(made()), {})

    def test_they_are_defined_in_their_file(self):
        for name in ["HallError", *WITH_ATTRIBUTE, *PLAIN]:
            self.assertEqual(getattr(errors, name).__module__, "joinedends.errors")

    def test_each_is_caught_by_its_own_name_only(self):
        for name in PLAIN:
            for other in PLAIN:
                is_caught = issubclass(getattr(errors, name), getattr(errors, other))
                self.assertEqual(is_caught, name == other)


if __name__ == "__main__":
    unittest.main()
