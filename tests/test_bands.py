import unittest

from samples import (
    CORNERED, FOUR, OF_36_ROWS, ONE_COLUMN, ONE_ROW, ONE_SQUARE, ROW_WITH_COLUMN, STAIRS, TWO_BY_TWO, all_floors,
    bands_by_words, is_smooth_by_words, is_told_kind, led_by_words, rows_by_words, small_floors, spread_floors,
)
from shearfloor.bands import bands_of, is_smooth
from shearfloor.corners import holes_of

LARGER = spread_floors(5, 40) + spread_floors(6, 40) + spread_floors(7, 40) + spread_floors(8, 40)
# Two rows of three, the upper one sewn on to the lower one a place further on.
TWISTED = ((1, 2, 0, 4, 5, 3), (3, 4, 5, 1, 2, 0))
LED = [led_by_words(floor, (("s", 1), ("t", 1), ("s", 2))) for floor in (STAIRS, ROW_WITH_COLUMN, TWISTED, OF_36_ROWS)]
# Floors all of whose rows are smooth: so wide, so high, sewn on so far to the right.
BLOCKS = [(width, height, shift) for width in range(1, 5) for height in range(1, 5) for shift in range(width)]
NAMED = [ONE_SQUARE, ONE_ROW, ONE_COLUMN, CORNERED, FOUR, ROW_WITH_COLUMN, TWO_BY_TWO, TWISTED, STAIRS, OF_36_ROWS]


def block(width, height, shift):
    right = []
    up = []
    for y in range(height):
        for x in range(width):
            right.append(y * width + (x + 1) % width)
            up.append((y + 1) * width + x if y + 1 < height else (x + shift) % width)
    return (tuple(right), tuple(up))


class IsSmooth(unittest.TestCase):
    def test_by_hand(self):
        self.assertIs(is_smooth(ONE_SQUARE, (0,)), True)
        self.assertIs(is_smooth(ONE_ROW, (0, 1, 2, 3)), True)
        self.assertIs(is_smooth(ONE_COLUMN, (2,)), True)
        self.assertIs(is_smooth(CORNERED, (0, 1)), False)
        self.assertIs(is_smooth(CORNERED, (2,)), False)
        self.assertIs(is_smooth(ROW_WITH_COLUMN, (0, 1, 2)), False)
        self.assertIs(is_smooth(ROW_WITH_COLUMN, (3,)), True)
        self.assertIs(is_smooth(ROW_WITH_COLUMN, (4,)), False)
        rows = ((0, 1, 2), (3, 4), (5, 6), (7,))
        self.assertEqual([is_smooth(STAIRS, row) for row in rows], [False, True, False, False])

    def test_each_row(self):
        for floor in small_floors() + NAMED + LARGER + LED:
            for row in set(rows_by_words(floor).values()):
                self.assertIs(is_smooth(floor, row), is_smooth_by_words(floor, row))


class BandsOf(unittest.TestCase):
    def test_by_hand(self):
        self.assertEqual(bands_of(ONE_SQUARE), ((1, 1, ((0,),)),))
        self.assertEqual(bands_of(ONE_ROW), ((4, 1, ((0, 1, 2, 3),)),))
        self.assertEqual(bands_of(ONE_COLUMN), ((1, 4, ((0,), (1,), (2,), (3,))),))
        self.assertEqual(bands_of(CORNERED), ((1, 1, ((2,),)), (2, 1, ((0, 1),))))
        self.assertEqual(bands_of(ROW_WITH_COLUMN), ((1, 2, ((3,), (4,))), (3, 1, ((0, 1, 2),))))
        self.assertEqual(bands_of(TWO_BY_TWO), ((2, 2, ((0, 1), (2, 3))),))
        self.assertEqual(bands_of(TWISTED), ((3, 2, ((0, 1, 2), (3, 4, 5))),))
        self.assertEqual(bands_of(STAIRS), ((1, 1, ((7,),)), (2, 2, ((3, 4), (5, 6))), (3, 1, ((0, 1, 2),))))

    def test_from_the_lowest_row_on(self):
        # The column on the row's first square goes 4, 3, and back.
        self.assertEqual(bands_of(((1, 2, 0, 3, 4), (4, 1, 2, 0, 3))), ((1, 2, ((4,), (3,))), (3, 1, ((0, 1, 2),))))
        self.assertEqual(bands_of(((0, 1, 2), (2, 0, 1))), ((1, 3, ((0,), (2,), (1,))),))
        self.assertEqual(bands_of(((5, 2, 1, 4, 3, 0), (3, 0, 5, 2, 1, 4))), ((2, 3, ((0, 5), (3, 4), (1, 2))),))

    def test_rows_begin_at_their_least_square(self):
        # The lower row 0, 1, 2 has above it 4, 5, 3, which is told from 3 on.
        floor = ((1, 2, 0, 4, 5, 3), (4, 5, 3, 0, 1, 2))
        self.assertEqual(bands_of(floor), ((3, 2, ((0, 1, 2), (3, 4, 5))),))

    def test_by_a_second_way(self):
        for floor in small_floors() + NAMED + LARGER + LED:
            told = bands_of(floor)
            self.assertEqual(told, bands_by_words(floor), floor)
            self.assertTrue(is_told_kind(told))

    def test_several_bands_come_among_them(self):
        counts = {len(bands_of(floor)) for floor in small_floors() + NAMED + LARGER}
        self.assertLessEqual({1, 2, 3}, counts)
        alike = [bands for bands in map(bands_of, LARGER) if len({band[:2] for band in bands}) < len(bands)]
        self.assertNotEqual(alike, [])

    def test_all_rows_smooth(self):
        for width, height, shift in BLOCKS:
            floor = block(width, height, shift)
            rows = tuple(tuple(range(y * width, (y + 1) * width)) for y in range(height))
            self.assertEqual(bands_of(floor), ((width, height, rows),))

    def test_all_rows_smooth_just_where_there_is_one_hole(self):
        for floor in small_floors() + LARGER:
            rows = set(rows_by_words(floor).values())
            smooth = all(is_smooth(floor, row) for row in rows)
            self.assertEqual(smooth, holes_of(floor) == 1)
            if smooth:
                told = bands_of(floor)
                self.assertEqual(len(told), 1)
                self.assertIn(0, told[0][2][0])
                self.assertEqual(told[0][1], len(rows))

    def test_widths_times_heights_come_to_all_squares(self):
        for floor in all_floors(4) + NAMED + LARGER + LED:
            told = bands_of(floor)
            self.assertEqual(sum(band[0] * band[1] for band in told), len(floor[0]))
            squares = [s for band in told for row in band[2] for s in row]
            self.assertEqual(sorted(squares), list(range(len(floor[0]))))

    def test_the_same_when_asked_again(self):
        self.assertEqual(bands_of(STAIRS), bands_of(STAIRS))
        self.assertEqual(FOUR, ((1, 2, 0, 3), (3, 2, 1, 0)))


if __name__ == "__main__":
    unittest.main()
