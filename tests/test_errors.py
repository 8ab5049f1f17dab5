import unittest

from shearfloor.errors import (
    FloorError, NoFloor, NoName, NoRow, NoSlope, NoTable, NoText, TooMany,
)

FIELDS = {
    NoText: ("row",),
    NoFloor: ("word", "at"),
    NoTable: (),
    NoSlope: (),
    TooMany: ("most",),
    NoName: ("name",),
    NoRow: (),
}
THINGS = (0, -7, "up", "", None, True, (1, (2, "x")), [3, 4], {"a": 1})


class Refusals(unittest.TestCase):
    def test_any_refusal_is_a_value_error(self):
        self.assertTrue(issubclass(FloorError, ValueError))
        self.assertIsInstance(FloorError(), ValueError)

    def test_each_is_a_floor_error_and_a_value_error(self):
        for kind, names in FIELDS.items():
            made = kind(*names)
            self.assertIsInstance(made, FloorError)
            self.assertIsInstance(made, ValueError)

    def test_none_is_under_another(self):
        for kind, names in FIELDS.items():
            made = kind(*names)
            for other in FIELDS:
                self.assertEqual(isinstance(made, other), kind is other, (kind, other))
            self.assertIsNot(kind, FloorError)

    def test_each_is_raised_and_taken_by_its_own_name(self):
        for kind, names in FIELDS.items():
            with self.assertRaises(kind) as taken:
                raise kind(*names)
            self.assertIs(type(taken.exception), kind)
            with self.assertRaises(FloorError):
                raise kind(*names)

    def test_any_things_are_kept_in_the_fields(self):
        for kind, names in FIELDS.items():
            for first in range(len(THINGS)):
                things = [THINGS[(first + k) % len(THINGS)] for k in range(len(names))]
                made = kind(*things)
                for name, thing in zip(names, things):
                    self.assertEqual(getattr(made, name), thing)

    def test_two_of_one_class_keep_each_their_own(self):
        for kind, names in FIELDS.items():
            ones = [(name, 1) for name in names]
            others = [(name, 2) for name in names]
            one = kind(*ones)
            other = kind(*others)
            self.assertEqual([getattr(one, name) for name in names], ones)
            self.assertEqual([getattr(other, name) for name in names], others)

    def test_fields_stand_in_the_order_of_the_brackets(self):
        made = NoFloor("parted", 3)
        self.assertEqual(made.word, "parted")
        self.assertEqual(made.at, 3)


if __name__ == "__main__":
    unittest.main()
