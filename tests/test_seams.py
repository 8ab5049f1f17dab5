import unittest
from itertools import product

from samples import (
    CORNERED, FOUR, OF_36_ROWS, ONE_COLUMN, ONE_ROW, ONE_SQUARE, ROW_WITH_COLUMN, STAIRS, TWO_BY_TWO, UNLIKE_ROWS,
    closed_rides, closed_seams, corner_names, crossed_by_words, is_closed_by_words, is_told_kind, rim_by_words,
    small_floors, spread_floors, spread_numbers, sum_of_rims,
)
from shearfloor.corners import corners_of
from shearfloor.seams import crossed, is_closed, rim_of

NAMED = [
    ONE_SQUARE, ONE_ROW, ONE_COLUMN, CORNERED, FOUR, ROW_WITH_COLUMN, TWO_BY_TWO, STAIRS, UNLIKE_ROWS, OF_36_ROWS,
]
LARGER = spread_floors(5, 6) + spread_floors(6, 6) + spread_floors(7, 6) + spread_floors(8, 6)
FLOORS = NAMED + LARGER
BACK = {"r": "l", "l": "r", "u": "d", "d": "u"}


def seams_of(floor):
    """Seams of many kinds, most of them not closed, with numbers to a thousand either way."""
    count = 2 * len(floor[0])
    seams = [tuple(spread_numbers(count, bound, rank)) for bound in (1, 3, 1000) for rank in range(4)]
    return seams + [(1000,) * count, (-1000,) * count, (1,) * count]


class RimOf(unittest.TestCase):
    def test_by_hand(self):
        self.assertEqual(rim_of(TWO_BY_TWO, 0), (1, 0, -1, 0, -1, 1, 0, 0))
        self.assertEqual(rim_of(TWO_BY_TWO, 3), (0, -1, 0, 1, 0, 0, 1, -1))
        self.assertEqual(rim_of(CORNERED, 0), (1, 0, -1, -1, 1, 0))
        self.assertEqual(rim_of(CORNERED, 1), (0, 0, 0, 1, -1, 0))
        self.assertEqual(rim_of(CORNERED, 2), (-1, 0, 1, 0, 0, 0))

    def test_one_side_that_is_two_of_the_four(self):
        self.assertEqual(rim_of(ONE_SQUARE, 0), (0, 0))
        self.assertEqual(rim_of(ONE_ROW, 1), (0, 0, 0, 0, 0, -1, 1, 0))
        self.assertEqual(rim_of(ONE_COLUMN, 1), (0, 1, -1, 0, 0, 0, 0, 0))

    def test_two_sides_between_the_same_squares(self):
        row = ((1, 0), (0, 1))
        self.assertEqual([rim_of(row, s) for s in (0, 1)], [(0, 0, -1, 1), (0, 0, 1, -1)])

    def test_of_each_square(self):
        for floor in small_floors() + FLOORS:
            for s in range(len(floor[0])):
                told = rim_of(floor, s)
                self.assertEqual(told, rim_by_words(floor, s))
                self.assertTrue(is_told_kind(told))
                self.assertIs(type(told), tuple)

    def test_all_rims_together_are_noughts(self):
        for floor in FLOORS:
            rims = [rim_of(floor, s) for s in range(len(floor[0]))]
            self.assertEqual([sum(numbers) for numbers in zip(*rims)], [0] * (2 * len(floor[0])))

    def test_the_same_when_asked_again(self):
        first = rim_of(STAIRS, 4)
        rim_of(FOUR, 1)
        self.assertEqual(rim_of(STAIRS, 4), first)


class IsClosed(unittest.TestCase):
    def test_by_hand(self):
        self.assertIs(is_closed(ONE_SQUARE, (7, -3)), True)
        self.assertIs(is_closed(ONE_ROW, (1, 1, 1, 1, 0, 0, 0, 0)), True)
        self.assertIs(is_closed(ONE_ROW, (1, 1, 0, 1, 0, 0, 0, 0)), False)
        self.assertIs(is_closed(ONE_ROW, (0, 0, 0, 0, 1, 0, 0, 0)), True)
        self.assertIs(is_closed(ONE_COLUMN, (0, 1, 0, 0, 0, 0, 0, 0)), True)
        self.assertIs(is_closed(ONE_COLUMN, (0, 0, 0, 0, 0, 1, 0, 0)), False)
        # All corners of the three squares are one.
        for seam in product((-1, 0, 2), repeat=6):
            self.assertIs(is_closed(CORNERED, seam), True)
        # From the lower left corner to the right, up, back to the left, and down again.
        self.assertIs(is_closed(TWO_BY_TWO, (1, 0, -1, 0, -1, 1, 0, 0)), True)
        self.assertIs(is_closed(TWO_BY_TWO, (1, 0, -1, 0, -1, -1, 0, 0)), False)
        self.assertIs(is_closed(TWO_BY_TWO, (1, 0, 1, 0, -1, 1, 0, 0)), False)
        self.assertIs(is_closed(TWO_BY_TWO, (1, 0, 0, 0, 0, 0, 0, 0)), False)

    def test_rims_and_sums_of_rims(self):
        for floor in FLOORS + small_floors()[::3]:
            count = len(floor[0])
            for s in range(count):
                self.assertIs(is_closed(floor, rim_by_words(floor, s)), True)
            for bound in (2, 1000):
                weights = spread_numbers(count, bound // 4 + 1, count)
                self.assertIs(is_closed(floor, sum_of_rims(floor, weights)), True)

    def test_rows_lower_sides_and_columns_left_sides(self):
        for floor in FLOORS + small_floors()[::3]:
            for seam in closed_seams(floor) + closed_seams(floor, 300):
                self.assertIs(is_closed(floor, seam), True)

    def test_these_with_one_number_other(self):
        told = []
        for floor in FLOORS:
            for seam in closed_seams(floor) + closed_seams(floor, 300):
                for side in range(len(seam)):
                    for more in (1, -1, 1000):
                        other = seam[:side] + (seam[side] + more,) + seam[side + 1:]
                        told.append(is_closed(floor, other))
                        self.assertIs(told[-1], is_closed_by_words(floor, other))
        self.assertEqual(set(told), {True, False})

    def test_other_seams(self):
        for floor in FLOORS + small_floors()[::7]:
            for seam in seams_of(floor):
                self.assertIs(is_closed(floor, seam), is_closed_by_words(floor, seam))

    def test_all_seams_of_small_numbers(self):
        for floor in small_floors():
            if len(floor[0]) < 4:
                for seam in product((-1, 0, 1), repeat=2 * len(floor[0])):
                    self.assertIs(is_closed(floor, seam), is_closed_by_words(floor, seam))

    def test_the_second_look_has_as_many_corners(self):
        for floor in FLOORS:
            self.assertEqual(len(set(corner_names(floor).values())), len(corners_of(floor)))

    def test_the_same_when_asked_again(self):
        self.assertEqual([is_closed(TWO_BY_TWO, (1, 0, -1, 0, -1, 1, 0, 0)) for _ in range(3)], [True] * 3)


class Crossed(unittest.TestCase):
    def test_each_step_by_hand(self):
        # Lower sides 1, 2, 3, 4 and 5, left sides 10, 20, 30, 40 and 50.
        seam = (1, 2, 3, 4, 5, 10, 20, 30, 40, 50)
        self.assertEqual([crossed(ROW_WITH_COLUMN, 0, step, seam) for step in "rlud"], [20, -10, -4, 1])
        self.assertEqual([crossed(ROW_WITH_COLUMN, 2, step, seam) for step in "rlud"], [10, -30, -3, 3])
        self.assertEqual([crossed(ROW_WITH_COLUMN, 4, step, seam) for step in "rlud"], [50, -50, -1, 5])
        self.assertEqual(crossed(ROW_WITH_COLUMN, 1, "lur", seam), -20 - 4 + 40)
        self.assertEqual([crossed(ONE_SQUARE, 0, step, (7, -3)) for step in "rlud"], [-3, 3, -7, 7])

    def test_no_steps(self):
        for floor in FLOORS:
            for seam in seams_of(floor):
                told = crossed(floor, len(floor[0]) - 1, "", seam)
                self.assertEqual(told, 0)
                self.assertIs(type(told), int)

    def test_each_short_ride(self):
        for floor in (ONE_SQUARE, CORNERED, FOUR, ROW_WITH_COLUMN):
            for seam in seams_of(floor)[::3]:
                for steps in product("rlud", repeat=3):
                    for s in range(len(floor[0])):
                        told = crossed(floor, s, "".join(steps), seam)
                        self.assertEqual(told, crossed_by_words(floor, s, steps, seam))

    def test_sixty_steps(self):
        for floor in FLOORS:
            for steps in ("ruldruuldrrlddu" * 4, "r" * 60, "d" * 60, "lluuurd" * 8 + "rlud"):
                for seam in seams_of(floor) + closed_seams(floor):
                    for s in (0, len(floor[0]) - 1):
                        told = crossed(floor, s, steps, seam)
                        self.assertEqual(told, crossed_by_words(floor, s, steps, seam))
                        self.assertIs(type(told), int)

    def test_rims_by_closed_rides(self):
        for floor in FLOORS + small_floors()[::7]:
            for steps in closed_rides(floor):
                for s in range(len(floor[0])):
                    self.assertEqual(crossed(floor, 0, steps, rim_of(floor, s)), 0)
                weights = spread_numbers(len(floor[0]), 250, 3)
                self.assertEqual(crossed(floor, 0, steps, sum_of_rims(floor, weights)), 0)

    def test_gone_back_as_often_below_0(self):
        for floor in FLOORS:
            for steps in closed_rides(floor):
                back = "".join(BACK[step] for step in reversed(steps))
                for seam in seams_of(floor) + closed_seams(floor):
                    self.assertEqual(crossed(floor, 0, back, seam), -crossed(floor, 0, steps, seam))

    def test_one_ride_behind_another(self):
        for floor in FLOORS:
            rides = closed_rides(floor)
            for seam in seams_of(floor)[::3] + closed_seams(floor):
                for one, other in zip(rides, rides[1:]):
                    together = crossed(floor, 0, one, seam) + crossed(floor, 0, other, seam)
                    self.assertEqual(crossed(floor, 0, one + other, seam), together)

    def test_the_same_when_asked_again(self):
        seam = seams_of(STAIRS)[9]
        first = crossed(STAIRS, 4, "rruuldd", seam)
        crossed(FOUR, 1, "rlud", seams_of(FOUR)[3])
        self.assertEqual(crossed(STAIRS, 4, "rruuldd", seam), first)


if __name__ == "__main__":
    unittest.main()
