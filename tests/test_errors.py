import unittest

from spoolrounds import errors
from things import anything, deep, same

WITH_VALUES = {
    "NoText": (ValueError, "asked"),
    "NoStretch": (ValueError, "at"),
    "NoRound": (ValueError, "at"),
    "NoLay": (ValueError, "part"),
    "NoStanding": (ValueError, "part"),
    "NoRow": (ValueError, "asked"),
    "BadName": (ValueError, "asked"),
    "NoName": (KeyError, "name"),
    "NoYard": (KeyError, "asked"),
    "Known": (LookupError, "name"),
    "NoSpot": (IndexError, "asked"),
    "NoSpool": (IndexError, "asked"),
    "TooFew": (ArithmeticError, "at"),
    "Uneven": (ArithmeticError, "times"),
    "TooMany": (RuntimeError, "many"),
}
OF_ANYTHING = ("NoText", "NoRow", "BadName", "NoName", "NoYard", "NoSpot", "NoSpool")


class Errors(unittest.TestCase):
    def test_each_is_straight_under_its_class(self):
        for name, (above, _) in WITH_VALUES.items():
            with self.subTest(name):
                self.assertEqual(getattr(errors, name).__bases__, (above,))
        self.assertEqual(errors.NoDeed.__bases__, (LookupError,))

    def test_each_is_defined_in_the_file_itself(self):
        for name in [*WITH_VALUES, "NoDeed"]:
            self.assertEqual(getattr(errors, name).__module__, "spoolrounds.errors")

    def test_each_has_its_value_as_its_attribute_alone(self):
        for name, (_, attribute) in WITH_VALUES.items():
            for value in (None, 0, 7, 10 ** 18, "abc", ("abc", 3)):
                with self.subTest(name=name, value=value):
                    error = getattr(errors, name)(value)
                    self.assertEqual(vars(error), {attribute: value})

    def test_each_can_be_raised_and_caught_by_the_class_above(self):
        for name, (above, _) in WITH_VALUES.items():
            with self.subTest(name), self.assertRaises(above):
                raise getattr(errors, name)(3)
        with self.assertRaises(LookupError):
            raise errors.NoDeed()

    def test_values_of_any_kind_are_kept_whole(self):
        for name in OF_ANYTHING:
            for thing, again in zip(anything(), anything()):
                with self.subTest(name=name, thing=str(thing)[:40]):
                    error = getattr(errors, name)(thing)
                    self.assertTrue(same(getattr(error, WITH_VALUES[name][1]), again))
                    self.assertTrue(str(error))

    def test_values_are_copies(self):
        for name in OF_ANYTHING:
            with self.subTest(name):
                inner = [1]
                table = {"k": inner}
                thing = [inner, (inner, 2), table]
                error = getattr(errors, name)(thing)
                inner.append(5)
                table["more"] = 1
                thing.clear()
                kept = getattr(error, WITH_VALUES[name][1])
                self.assertEqual(kept, [[1], ([1], 2), {"k": [1]}])
                self.assertNotIn(thing, error.args)

    def test_values_may_be_nested_deeper_than_calls(self):
        kept = errors.NoText(deep(20000)).asked
        depth = 0
        while kept:
            kept = kept[0]
            depth += 1
        self.assertEqual(depth, 20000)


if __name__ == "__main__":
    unittest.main()
