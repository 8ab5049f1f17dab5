import unittest
from itertools import product

from samples import (
    CORNERED, FOUR, ONE_COLUMN, ONE_ROW, ONE_SQUARE, ROW_WITH_COLUMN, TWENTY_SQUARES, TWO_BY_TWO, is_told_kind,
    round_by_words, small_floors, spread_floors, turning_of_rank,
)
from shearfloor.anew import called_anew
from shearfloor.corners import corners_of, holes_of, turns_of
from shearfloor.leading import led_by

LARGER = spread_floors(5, 8) + spread_floors(6, 8) + spread_floors(7, 8) + spread_floors(8, 8)
STEPS = (("s", 1), ("s", -1), ("t", 1), ("t", 2), ("t", 3), ("s", 4))


def corners_by_words(floor):
    rings = set()
    for first in range(len(floor[0])):
        ring = [first]
        while round_by_words(floor, ring[-1]) != first:
            ring.append(round_by_words(floor, ring[-1]))
        place = ring.index(min(ring))
        rings.add(tuple(ring[place:] + ring[:place]))
    return tuple(sorted(rings))


class Corners(unittest.TestCase):
    def test_by_hand(self):
        self.assertEqual(corners_of(ONE_SQUARE), ((0,),))
        self.assertEqual(corners_of(ONE_ROW), ((0,), (1,), (2,), (3,)))
        self.assertEqual(corners_of(ONE_COLUMN), ((0,), (1,), (2,), (3,)))
        self.assertEqual(corners_of(TWO_BY_TWO), ((0,), (1,), (2,), (3,)))
        self.assertEqual(corners_of(CORNERED), ((0, 2, 1),))
        self.assertEqual(corners_of(ROW_WITH_COLUMN), ((0, 4, 2), (1,), (3,)))
        self.assertEqual(corners_of(((1, 2, 0, 3), (0, 1, 3, 2))), ((0,), (1, 2, 3)))

    def test_rings_by_right_up_left_down(self):
        for floor in small_floors() + LARGER + [TWENTY_SQUARES]:
            told = corners_of(floor)
            self.assertEqual(told, corners_by_words(floor))
            self.assertTrue(is_told_kind(told))
            self.assertEqual(sorted(s for ring in told for s in ring), list(range(len(floor[0]))))

    def test_the_same_when_asked_again(self):
        self.assertEqual(corners_of(FOUR), corners_of(FOUR))
        self.assertEqual(FOUR, ((1, 2, 0, 3), (3, 2, 1, 0)))


class Turns(unittest.TestCase):
    def test_by_hand(self):
        self.assertEqual(turns_of(ONE_SQUARE), (1,))
        self.assertEqual(turns_of(ONE_ROW), (1, 1, 1, 1))
        self.assertEqual(turns_of(ONE_COLUMN), (1, 1, 1, 1))
        self.assertEqual(turns_of(CORNERED), (3,))
        self.assertEqual(turns_of(ROW_WITH_COLUMN), (1, 1, 3))
        self.assertEqual(turns_of(((1, 0, 3, 2), (3, 2, 1, 0))), (1, 1, 1, 1))

    def test_rising(self):
        for floor in small_floors() + LARGER + [TWENTY_SQUARES]:
            told = turns_of(floor)
            self.assertEqual(told, tuple(sorted(len(ring) for ring in corners_by_words(floor))))
            self.assertTrue(is_told_kind(told))

    def test_not_in_the_order_of_the_corners(self):
        floor = ((1, 2, 0, 3, 4), (3, 1, 2, 4, 0))
        self.assertEqual([len(ring) for ring in corners_of(floor)], [3, 1, 1])
        self.assertEqual(turns_of(floor), (1, 1, 3))


class Holes(unittest.TestCase):
    def test_by_hand(self):
        for floor in (ONE_SQUARE, ONE_ROW, ONE_COLUMN, TWO_BY_TWO):
            self.assertEqual(holes_of(floor), 1)
        self.assertEqual(holes_of(CORNERED), 2)
        self.assertEqual(holes_of(ROW_WITH_COLUMN), 2)

    def test_of_two_corners_and_of_one(self):
        floor = ((1, 2, 3, 0), (3, 2, 0, 1))
        self.assertEqual((turns_of(floor), holes_of(floor)), ((1, 3), 2))
        three = [floor for floor in spread_floors(5, 200) if turns_of(floor) == (5,)]
        self.assertNotEqual(three, [])
        self.assertEqual([holes_of(floor) for floor in three], [3] * len(three))

    def test_one_and_half_of_squares_less_corners(self):
        for floor in small_floors() + LARGER + [TWENTY_SQUARES]:
            told = holes_of(floor)
            self.assertIs(type(told), int)
            self.assertEqual(2 * (told - 1), len(floor[0]) - len(corners_by_words(floor)))
            self.assertGreaterEqual(told, 1)


class Led(unittest.TestCase):
    """Points [15] and [3]: squares, corners, turns and holes are alike for all floors to which words lead."""

    def assert_alike(self, floor, other):
        self.assertEqual(len(other[0]), len(floor[0]))
        self.assertEqual(len(corners_of(other)), len(corners_of(floor)))
        self.assertEqual(turns_of(other), turns_of(floor))
        self.assertEqual(holes_of(other), holes_of(floor))

    def test_led_by_one_step(self):
        for floor in small_floors():
            for step in STEPS:
                self.assert_alike(floor, led_by(floor, (step,)))

    def test_led_by_words(self):
        for floor in [ONE_SQUARE, ONE_ROW, ONE_COLUMN, CORNERED, ROW_WITH_COLUMN] + LARGER:
            for word in product(STEPS, repeat=3):
                self.assert_alike(floor, led_by(floor, word))
            self.assert_alike(floor, led_by(floor, (("s", 1000), ("t", 1), ("s", -999), ("t", 3)) * 3))

    def test_called_anew(self):
        for floor in LARGER:
            self.assert_alike(floor, called_anew(floor, turning_of_rank(len(floor[0]), 4242)))


if __name__ == "__main__":
    unittest.main()
