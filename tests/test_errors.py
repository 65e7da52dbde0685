import inspect
import unittest

import runnets
import runnets.errors as errors
from tests.samples import OTHERS

WITH_GIVEN = ("InvalidNet", "InvalidWire", "InvalidKind", "InvalidNumber", "InvalidTable", "InvalidFault",
              "InvalidName", "TooLong")
WITH_INDEX = ("InvalidWishes", "InvalidWorths", "InvalidMarks", "InvalidDigits")
WITHOUT = ("NotRunning", "NotRight")
VALUES = [*OTHERS, 0, 1, -1, 2 ** 60, 10 ** 399, (), (1, (2, [3])), "a b", ((((((((((((((1,),),),),),),),),),),),),),)]


class Classes(unittest.TestCase):
    def test_base(self):
        self.assertEqual(errors.NetError.__bases__, (ValueError,))
        self.assertEqual(vars(errors.NetError()), {})

    def test_all_others_stand_under_the_base_alone(self):
        names = (*WITH_GIVEN, *WITH_INDEX, *WITHOUT)
        self.assertEqual(len(names), 14)
        for name in names:
            made = getattr(errors, name)
            self.assertEqual(made.__bases__, (errors.NetError,), name)
            self.assertEqual(made.__mro__, (made, errors.NetError, ValueError, Exception, BaseException, object), name)
            self.assertEqual((made.__module__, made.__qualname__), ("runnets.errors", name))

    def test_no_class_beside_those_told(self):
        told = {"NetError", *WITH_GIVEN, *WITH_INDEX, *WITHOUT}
        self.assertEqual({name for name, held in vars(errors).items() if inspect.isclass(held)}, told)

    def test_the_package_brings_no_name(self):
        self.assertFalse(hasattr(runnets, "NetError"))


class Attributes(unittest.TestCase):
    def check(self, names, attribute):
        for name in names:
            made = getattr(errors, name)
            self.assertIn("__init__", vars(made))
            for value in VALUES:
                for error in (made(value), made(**{attribute: value})):
                    self.assertIs(type(error), made)
                    self.assertEqual(list(vars(error)), [attribute])
                    self.assertIs(getattr(error, attribute), value)

    def test_given(self):
        self.check(WITH_GIVEN, "given")

    def test_index(self):
        self.check(WITH_INDEX, "index")

    def test_lists_are_kept_not_copied(self):
        rows = [1, [2]]
        self.assertIs(errors.InvalidNet(rows).given, rows)
        self.assertIs(errors.InvalidWishes(index=rows).index, rows)

    def test_the_attribute_must_be_told(self):
        for name in (*WITH_GIVEN, *WITH_INDEX):
            self.assertRaises(TypeError, getattr(errors, name))
        self.assertRaises(TypeError, lambda: errors.InvalidNet(index=1))
        self.assertRaises(TypeError, lambda: errors.InvalidMarks(given=1))

    def test_without_attributes(self):
        for name in WITHOUT:
            self.assertEqual(vars(getattr(errors, name)()), {})

    def test_raised_and_caught(self):
        for name in WITH_GIVEN:
            with self.assertRaises(errors.NetError) as held:
                raise getattr(errors, name)((1, 2))
            self.assertEqual(held.exception.given, (1, 2))
        for name in WITHOUT:
            with self.assertRaises(ValueError):
                raise getattr(errors, name)()


if __name__ == "__main__":
    unittest.main()
