import unittest
from itertools import product

from samples import (
    CORNERED, FOUR, OF_36_ROWS, ONE_COLUMN, ONE_ROW, ONE_SQUARE, ROW_WITH_COLUMN, STAIRS, TWENTY_SQUARES, TWO_BY_TWO,
    UNLIKE_ROWS, closed_rides, closed_seams, crossed_by_words, is_closed_by_words, is_told_kind, rim_by_words,
    small_floors, spread_floors, spread_numbers, sum_of_rims, walked_by_words,
)
from shearfloor.borders import border_or_ride

ROW_OF_EIGHT = ((1, 2, 3, 4, 5, 6, 7, 0), (0, 1, 2, 3, 4, 5, 6, 7))
COLUMN_OF_EIGHT = (ROW_OF_EIGHT[1], ROW_OF_EIGHT[0])
NAMED = [
    ONE_SQUARE, ONE_ROW, ONE_COLUMN, ROW_OF_EIGHT, COLUMN_OF_EIGHT, CORNERED, FOUR, ROW_WITH_COLUMN, TWO_BY_TWO,
    STAIRS, UNLIKE_ROWS, OF_36_ROWS,
]
LARGER = spread_floors(5, 6) + spread_floors(6, 6) + spread_floors(7, 6) + spread_floors(8, 6)
FLOORS = NAMED + LARGER


class BorderOrRide(unittest.TestCase):
    def assert_border(self, floor, seam):
        told = border_or_ride(floor, seam)
        self.assertTrue(is_told_kind(told))
        self.assertIs(type(told), tuple)
        self.assertEqual((len(told), told[0]), (2, "border"))
        weights = told[1]
        self.assertIs(type(weights), tuple)
        self.assertEqual((len(weights), weights[0]), (len(floor[0]), 0))
        self.assertEqual(sum_of_rims(floor, weights), seam)

    def assert_ride(self, floor, seam):
        told = border_or_ride(floor, seam)
        self.assertTrue(is_told_kind(told))
        self.assertIs(type(told), tuple)
        self.assertEqual((len(told), told[0]), (2, "ride"))
        steps = told[1]
        self.assertIs(type(steps), str)
        self.assertLessEqual(len(steps), 60)
        self.assertEqual(walked_by_words(floor, 0, steps)[-1], 0)
        self.assertNotEqual(crossed_by_words(floor, 0, steps, seam), 0)

    def assert_one(self, floor, seam):
        if border_or_ride(floor, seam)[0] == "border":
            self.assert_border(floor, seam)
        else:
            self.assert_ride(floor, seam)

    def test_noughts(self):
        for floor in FLOORS + small_floors()[::5]:
            seam = (0,) * (2 * len(floor[0]))
            self.assert_border(floor, seam)
            self.assertEqual(border_or_ride(floor, seam), ("border", (0,) * len(floor[0])))

    def test_weights_by_hand(self):
        self.assertEqual(border_or_ride(TWO_BY_TWO, (0, 1, 0, -1, 1, -1, 0, 0)), ("border", (0, 1, 0, 0)))
        self.assertEqual(border_or_ride(TWO_BY_TWO, (1, 0, -1, 0, -1, 1, 0, 0)), ("border", (0, -1, -1, -1)))
        self.assertEqual(border_or_ride(CORNERED, (-5, 0, 5, 0, 0, 0)), ("border", (0, 0, 5)))

    def test_rims(self):
        for floor in FLOORS + small_floors()[::5]:
            for s in range(len(floor[0])):
                self.assert_border(floor, rim_by_words(floor, s))

    def test_sums_of_rims(self):
        for floor in FLOORS + small_floors()[::5]:
            for bound in (1, 4, 250):
                for rank in range(4):
                    weights = spread_numbers(len(floor[0]), bound, rank)
                    seam = sum_of_rims(floor, weights)
                    self.assert_border(floor, seam)
                    told = border_or_ride(floor, seam)[1]
                    self.assertEqual(told, tuple(weight - weights[0] for weight in weights))

    def test_one_square(self):
        for lower, left in product((0, 1, -1, 7, 1000, -1000), repeat=2):
            if (lower, left) == (0, 0):
                self.assert_border(ONE_SQUARE, (lower, left))
            else:
                self.assert_ride(ONE_SQUARE, (lower, left))

    def test_closed_ones_that_are_no_border(self):
        for floor in FLOORS:
            count = len(floor[0])
            row = closed_seams(floor)[1]
            self.assertTrue(is_closed_by_words(floor, row))
            for often in (1, -1, 1000, -1000):
                self.assert_ride(floor, tuple(often * number for number in row))
            rims = sum_of_rims(floor, spread_numbers(count, 250, 5))
            self.assert_ride(floor, tuple(one + other for one, other in zip(row, rims)))

    def test_those_that_are_not_closed(self):
        seen = 0
        for floor in FLOORS:
            count = 2 * len(floor[0])
            for side in range(count):
                for number in (1, -1, 1000):
                    seam = (0,) * side + (number,) + (0,) * (count - side - 1)
                    self.assert_ride(floor, seam)
                    seen += not is_closed_by_words(floor, seam)
            for bound, rank in product((1, 1000), range(4)):
                self.assert_one(floor, tuple(spread_numbers(count, bound, rank)))
        self.assertGreater(seen, 100)

    def test_a_border_with_one_number_other(self):
        for floor in FLOORS:
            seam = sum_of_rims(floor, spread_numbers(len(floor[0]), 250, 2))
            for side in range(len(seam)):
                for more in (1, -1, -999):
                    self.assert_ride(floor, seam[:side] + (seam[side] + more,) + seam[side + 1:])

    def test_other_closed_seams(self):
        for floor in FLOORS + small_floors()[::5]:
            for seam in closed_seams(floor) + closed_seams(floor, 300):
                self.assert_one(floor, seam)

    def test_all_seams_of_small_numbers(self):
        for floor in small_floors():
            if len(floor[0]) < 4:
                borders = {sum_of_rims(floor, weights) for weights in product(range(-4, 5), repeat=len(floor[0]))}
                for seam in product((-1, 0, 1), repeat=2 * len(floor[0])):
                    if seam in borders:
                        self.assert_border(floor, seam)
                    else:
                        self.assert_ride(floor, seam)

    def test_a_border_is_closed_and_crossed_by_no_closed_ride(self):
        for floor in FLOORS:
            for seam in closed_seams(floor):
                crossings = [crossed_by_words(floor, 0, steps, seam) for steps in closed_rides(floor)]
                if border_or_ride(floor, seam)[0] == "border":
                    self.assertTrue(is_closed_by_words(floor, seam))
                    self.assertEqual(set(crossings), {0})

    def test_twenty_squares(self):
        self.assert_border(TWENTY_SQUARES, sum_of_rims(TWENTY_SQUARES, spread_numbers(20, 250, 1)))
        for side in range(40):
            self.assert_ride(TWENTY_SQUARES, (0,) * side + (3,) + (0,) * (39 - side))

    def test_the_same_when_asked_again(self):
        seams = closed_seams(STAIRS)
        first = [border_or_ride(STAIRS, seam) for seam in seams]
        border_or_ride(FOUR, closed_seams(FOUR)[2])
        self.assertEqual([border_or_ride(STAIRS, seam) for seam in seams], first)


if __name__ == "__main__":
    unittest.main()
