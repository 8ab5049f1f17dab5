import unittest
from itertools import product

from samples import (
    CORNERED, FOUR, LONG_ROW, ONE_SQUARE, TWENTY_SQUARES, all_floors, is_sewn, is_told_kind, small_floors,
)
from shearfloor.errors import NoFloor
from shearfloor.floors import look_floor, neighbour

BACK = {"r": "l", "l": "r", "u": "d", "d": "u"}


class LookFloor(unittest.TestCase):
    def assert_refused(self, floor, word, at):
        with self.assertRaises(NoFloor) as taken:
            look_floor(floor)
        self.assertEqual((taken.exception.word, taken.exception.at), (word, at), floor)
        self.assertTrue(is_told_kind((taken.exception.word, taken.exception.at)))

    def test_floors(self):
        for floor in (ONE_SQUARE, CORNERED, FOUR, TWENTY_SQUARES):
            self.assertIs(look_floor(floor), True)
        for floor in small_floors():
            self.assertIs(look_floor(floor), True)

    def test_sewn_by_up_alone(self):
        self.assertIs(look_floor((tuple(range(20)), LONG_ROW)), True)

    def test_sizes(self):
        self.assert_refused(((), ()), "sizes", 0)
        self.assert_refused(((), (0,)), "sizes", 0)
        self.assert_refused(((0,), ()), "sizes", 1)
        self.assert_refused(((0, 1), (0,)), "sizes", 2)
        self.assert_refused(((0,), (1, 0)), "sizes", 1)
        self.assert_refused((LONG_ROW, LONG_ROW + (20,)), "sizes", 20)

    def test_sizes_of_21_numbers(self):
        row = tuple(range(1, 21)) + (0,)
        self.assert_refused((row, row), "sizes", 21)
        self.assert_refused((row, LONG_ROW), "sizes", 21)

    def test_right(self):
        self.assert_refused(((1,), (0,)), "right", 0)
        self.assert_refused(((-1,), (0,)), "right", 0)
        self.assert_refused(((0, 0), (0, 1)), "right", 1)
        self.assert_refused(((1, 2, 3), (0, 1, 2)), "right", 2)
        self.assert_refused(((1, -1, 0), (0, 1, 2)), "right", 1)
        self.assert_refused(((0, 1, 2, 1, 0), (0, 1, 2, 3, 4)), "right", 3)
        self.assert_refused((LONG_ROW[:19] + (20,), LONG_ROW), "right", 19)

    def test_up(self):
        self.assert_refused(((0,), (1,)), "up", 0)
        self.assert_refused(((0,), (-1,)), "up", 0)
        self.assert_refused(((1, 0), (1, 1)), "up", 1)
        self.assert_refused(((1, 2, 0), (0, 1, 3)), "up", 2)
        self.assert_refused(((1, 2, 0), (0, -3, 2)), "up", 1)
        self.assert_refused((LONG_ROW, LONG_ROW[:19] + (1,)), "up", 19)

    def test_parted(self):
        self.assert_refused(((0, 1), (0, 1)), "parted", 1)
        self.assert_refused(((1, 0, 2), (1, 0, 2)), "parted", 2)
        self.assert_refused(((0, 2, 1), (0, 1, 2)), "parted", 1)
        self.assert_refused(((2, 1, 0, 3), (0, 3, 2, 1)), "parted", 1)
        self.assert_refused(((1, 0, 2, 4, 3), (4, 1, 2, 3, 0)), "parted", 2)
        self.assert_refused((LONG_ROW[:18] + (0, 19), tuple(range(20))), "parted", 19)

    def test_the_first_that_is_due(self):
        self.assert_refused(((5, 5), (7,)), "sizes", 2)
        self.assert_refused(((0,) * 21, (0,) * 21), "sizes", 21)
        self.assert_refused(((0, 0), (1, 1)), "right", 1)
        self.assert_refused(((0, 1, 9), (9, 1, 2)), "right", 2)
        self.assert_refused(((0, 1, 2), (0, 1, 1)), "up", 2)

    def test_all_pairs_of_triples_of_small_numbers(self):
        triples = list(product(range(-1, 4), repeat=3))
        let_by = [pair for pair in product(triples, repeat=2) if is_let_by(pair)]
        self.assertEqual(let_by, all_floors(3))

    def test_parted_at_the_least_of_all_small_ones(self):
        rows = [(0, 1, 2, 3), (1, 0, 2, 3), (0, 1, 3, 2), (2, 1, 0, 3), (3, 1, 2, 0), (0, 2, 1, 3), (0, 3, 2, 1)]
        for right, up in product(rows, repeat=2):
            if not is_sewn(right, up):
                reached = {0, right[0], up[0], up[right[0]], right[up[0]]}
                self.assert_refused((right, up), "parted", min({0, 1, 2, 3} - reached))


def is_let_by(pair):
    try:
        return look_floor(pair)
    except NoFloor:
        return False


class Neighbour(unittest.TestCase):
    def test_by_each_step(self):
        floor = ((1, 2, 0, 3), (3, 0, 1, 2))
        self.assertEqual([neighbour(floor, s, "r") for s in range(4)], [1, 2, 0, 3])
        self.assertEqual([neighbour(floor, s, "l") for s in range(4)], [2, 0, 1, 3])
        self.assertEqual([neighbour(floor, s, "u") for s in range(4)], [3, 0, 1, 2])
        self.assertEqual([neighbour(floor, s, "d") for s in range(4)], [1, 2, 3, 0])

    def test_on_a_floor_of_one_square(self):
        for step in "rlud":
            self.assertEqual(neighbour(ONE_SQUARE, 0, step), 0)

    def test_on_a_floor_of_twenty_squares(self):
        self.assertEqual(neighbour(TWENTY_SQUARES, 19, "r"), 0)
        self.assertEqual(neighbour(TWENTY_SQUARES, 0, "l"), 19)
        self.assertEqual(neighbour(TWENTY_SQUARES, 19, "u"), 0)
        self.assertEqual(neighbour(TWENTY_SQUARES, 3, "d"), 16)

    def test_a_step_and_the_step_back(self):
        for floor in small_floors():
            for s in range(len(floor[0])):
                for step, back in BACK.items():
                    self.assertEqual(neighbour(floor, neighbour(floor, s, step), back), s)

    def test_right_and_up_of_all_small_floors(self):
        for floor in small_floors():
            for s in range(len(floor[0])):
                self.assertEqual(neighbour(floor, s, "r"), floor[0][s])
                self.assertEqual(neighbour(floor, s, "u"), floor[1][s])

    def test_the_same_when_asked_again(self):
        told = [neighbour(FOUR, s, step) for s in range(4) for step in "rlud"]
        self.assertEqual([neighbour(FOUR, s, step) for s in range(4) for step in "rlud"], told)
        self.assertTrue(all(type(square) is int for square in told))


if __name__ == "__main__":
    unittest.main()
