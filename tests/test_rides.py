import unittest
from itertools import product

from samples import (
    CORNERED, FOUR, ONE_COLUMN, ONE_ROW, ONE_SQUARE, ROW_WITH_COLUMN, STAIRS, TWENTY_SQUARES, UNLIKE_ROWS,
    is_told_kind, small_floors, spread_floors, walked_by_words,
)
from shearfloor.floors import neighbour
from shearfloor.rides import ridden

NAMED = [ONE_SQUARE, ONE_ROW, ONE_COLUMN, CORNERED, FOUR, ROW_WITH_COLUMN, STAIRS, UNLIKE_ROWS, TWENTY_SQUARES]
LARGER = spread_floors(7, 10) + spread_floors(8, 10)
BACK = {"r": "l", "l": "r", "u": "d", "d": "u"}
SIXTY = ("ruldruuldrrlddu" * 4, "r" * 60, "l" * 60, "u" * 60, "d" * 60, "rrul" * 15, "ldru" * 15)


class Ridden(unittest.TestCase):
    def test_no_steps(self):
        for floor in NAMED:
            for s in range(len(floor[0])):
                self.assertEqual(ridden(floor, s, ""), (s,))

    def test_one_step_by_hand(self):
        self.assertEqual([ridden(ROW_WITH_COLUMN, 0, step) for step in "rlud"], [(0, 1), (0, 2), (0, 3), (0, 4)])
        self.assertEqual([ridden(ROW_WITH_COLUMN, 3, step) for step in "rlud"], [(3, 3), (3, 3), (3, 4), (3, 0)])
        self.assertEqual([ridden(ONE_SQUARE, 0, step) for step in "rlud"], [(0, 0)] * 4)

    def test_several_steps_by_hand(self):
        self.assertEqual(ridden(ROW_WITH_COLUMN, 1, "lurud"), (1, 0, 3, 3, 4, 3))
        self.assertEqual(ridden(CORNERED, 0, "rruudl"), (0, 1, 0, 2, 0, 2, 2))
        self.assertEqual(ridden(ONE_ROW, 2, "rrrrllu"), (2, 3, 0, 1, 2, 1, 0, 0))

    def test_each_short_ride(self):
        for floor in (CORNERED, FOUR, ROW_WITH_COLUMN):
            for count in range(5):
                for steps in product("rlud", repeat=count):
                    for s in range(len(floor[0])):
                        told = ridden(floor, s, "".join(steps))
                        self.assertEqual(told, tuple(walked_by_words(floor, s, steps)))

    def test_one_step_of_each_small_floor(self):
        for floor in small_floors():
            for s in range(len(floor[0])):
                for step in "rlud":
                    self.assertEqual(ridden(floor, s, step), (s, neighbour(floor, s, step)))

    def test_sixty_steps(self):
        for floor in NAMED + LARGER:
            for steps in SIXTY:
                for s in range(len(floor[0])):
                    told = ridden(floor, s, steps)
                    self.assertEqual(len(told), 61)
                    self.assertEqual(told, tuple(walked_by_words(floor, s, steps)))
                    self.assertTrue(is_told_kind(told))

    def test_gone_back(self):
        for floor in NAMED + LARGER:
            for steps in SIXTY:
                told = ridden(floor, 0, steps)
                back = "".join(BACK[step] for step in reversed(steps))
                self.assertEqual(ridden(floor, told[-1], back), told[::-1])

    def test_the_same_when_asked_again(self):
        first = ridden(STAIRS, 4, SIXTY[0])
        ridden(FOUR, 1, "rlud")
        self.assertEqual(ridden(STAIRS, 4, SIXTY[0]), first)


if __name__ == "__main__":
    unittest.main()
