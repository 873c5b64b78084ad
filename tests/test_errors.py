"""The refusals of elderdraw/errors.py."""

import inspect
import unittest

from elderdraw import errors

VALUES = {
    "NoShare": None,
    "NoWalk": "part",
    "NotOne": "sets",
    "NoTurns": "part",
    "TooMany": None,
    "NoSign": "sign",
    "NoOrder": None,
    "NotKept": "kept",
    "NoEnds": None,
    "NeverMeets": "pair",
    "NoWeb": "part",
    "NoText": "at",
    "NoRow": None,
    "NoName": "name",
    "NotThere": "name",
}


class Errors(unittest.TestCase):
    def test_the_first_of_all_is_a_value_error(self):
        self.assertEqual(errors.DrawError.__bases__, (ValueError,))

    def test_there_are_just_the_fifteen_and_the_first(self):
        found = [name for name, thing in vars(errors).items() if inspect.isclass(thing)]
        self.assertEqual(sorted(found), sorted([*VALUES, "DrawError"]))

    def test_each_stands_straight_under_the_first(self):
        for name in VALUES:
            with self.subTest(name=name):
                self.assertEqual(getattr(errors, name).__bases__, (errors.DrawError,))
                self.assertEqual(getattr(errors, name).__module__, "elderdraw.errors")

    def test_the_value_is_the_passed_object_itself(self):
        things = ["rows", "", 7, -1, None, True, (0, 1), [(0,), (1,)], {}, object(), [[]], 10 ** 30]
        for name, value in VALUES.items():
            for thing in things:
                if value is not None:
                    with self.subTest(name=name, thing=thing):
                        self.assertIs(getattr(getattr(errors, name)(thing), value), thing)

    def test_what_has_a_value_is_made_of_just_one(self):
        for name, value in VALUES.items():
            if value is not None:
                with self.subTest(name=name):
                    self.assertRaises(TypeError, getattr(errors, name))
                    self.assertRaises(TypeError, getattr(errors, name), 1, 2)

    def test_the_others_are_made_of_one_text(self):
        for name, value in VALUES.items():
            if value is None:
                with self.subTest(name=name):
                    self.assertEqual(str(getattr(errors, name)("so it is")), "so it is")

    def test_each_is_caught_as_the_first_and_as_a_value_error(self):
        for name in VALUES:
            with self.subTest(name=name):
                for kind in (errors.DrawError, ValueError):
                    with self.assertRaises(kind):
                        raise getattr(errors, name)("x")


if __name__ == "__main__":
    unittest.main()
