"""[0.3] and the interface: the refusals and how they stand to one another."""

import unittest

from routeboard import errors

NAMES = ["BadValues", "NoRow", "Taken", "TooMany", "BadLead", "NoText", "NoHole", "NoSite", "NoBack"]


class TheRefusals(unittest.TestCase):
    def test_route_error_is_a_value_error(self):
        self.assertTrue(issubclass(errors.RouteError, ValueError))

    def test_each_refusal_is_there_and_stands_straight_under_route_error(self):
        for name in NAMES:
            with self.subTest(name):
                self.assertEqual(getattr(errors, name).__bases__, (errors.RouteError,))

    def test_none_stands_under_another(self):
        for name in NAMES:
            for other in NAMES:
                if name != other:
                    with self.subTest(name=name, other=other):
                        self.assertFalse(issubclass(getattr(errors, name), getattr(errors, other)))

    def test_each_is_taken_as_a_value_error(self):
        for name in NAMES:
            with self.subTest(name), self.assertRaises(ValueError):
                raise getattr(errors, name)("refused")


if __name__ == "__main__":
    unittest.main()
