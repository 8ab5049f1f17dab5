import unittest
from math import gcd

from samples import (
    CORNERED, FOUR, OF_12_ROWS, OF_96_ROWS, ONE_COLUMN, ONE_ROW, ONE_SQUARE, ROW_WITH_COLUMN, STAIRS, TWO_BY_TWO,
    UNLIKE_ROWS, bands_by_words, is_told_kind, led_by_words, rows_by_words, slopes_to, small_floors, spread_floors,
    turning_of_rank, walked_by_words, word_by_other_division,
)
from shearfloor.anew import called_anew
from shearfloor.bands import bands_of
from shearfloor.errors import FloorError, NoSlope
from shearfloor.leading import led_by_table
from shearfloor.slopes import bands_along, gone_once, line_from, slope_steps, slope_table
from shearfloor.turnings import is_turning, rings_of

NAMED = [
    ONE_SQUARE, ONE_ROW, ONE_COLUMN, CORNERED, FOUR, ROW_WITH_COLUMN, TWO_BY_TWO, STAIRS, UNLIKE_ROWS, OF_12_ROWS,
    OF_96_ROWS,
]
LARGER = spread_floors(5, 4) + spread_floors(6, 4) + spread_floors(7, 6) + spread_floors(8, 6)
FLOORS = NAMED + LARGER
SMALL_SLOPES = slopes_to(4)
# To the bound of lines that are walked.
WALKED = [slope for slope in slopes_to(23) if abs(slope[0]) + slope[1] <= 24]
EDGES = (1000, 999, 998, 997, 991, 610, 503, 377, 8, 3, 2, 1)
LARGE_SLOPES = [(sign * a, c) for a in EDGES for c in EDGES for sign in (1, -1) if gcd(a, c) == 1]


def steps_by_words(slope):
    """A second way to a slope's steps: behind each level one the upper ones that keep to the line from below."""
    width = abs(slope[0])
    height = slope[1]
    if width == 0:
        return "u" * height
    steps = ""
    for x in range(1, width + 1):
        steps += ("l" if slope[0] < 0 else "r") + "u" * (height * x // width - height * (x - 1) // width)
    return steps


def line_by_words(floor, slope, s):
    squares = []
    reached = s
    while True:
        walked = walked_by_words(floor, reached, steps_by_words(slope))
        squares += walked[:-1]
        reached = walked[-1]
        if reached == s:
            return tuple(squares)


def led_along(floor, slope, k):
    """The floor led by a table that leads the slope to (1, 0), found by a search, and sheared k times more."""
    a, c = slope
    p = pow(a, -1, c) if c else 1
    q = (1 - p * a) // c if c else 0
    word = word_by_other_division((p - k * c, q + k * a, -c, a))
    return led_by_words(floor, [(letter, number % 840 if letter == "s" else number) for letter, number in word])


def bands_by_other_table(floor, slope, k=0):
    return tuple(sorted(band[:2] for band in bands_by_words(led_along(floor, slope, k))))


class SlopeTable(unittest.TestCase):
    def assert_leads_to_level(self, slope):
        table = slope_table(slope)
        self.assertTrue(is_told_kind(table))
        self.assertIs(type(table), tuple)
        self.assertEqual(len(table), 4)
        a, b, c, d = table
        self.assertEqual(a * d - b * c, 1)
        self.assertEqual((a * slope[0] + b * slope[1], c * slope[0] + d * slope[1]), (1, 0))
        self.assertLessEqual(max(abs(number) for number in table), 1000000)

    def test_level_upright_and_slanted(self):
        for slope in ((1, 0), (0, 1), (1, 1), (-1, 1)):
            self.assert_leads_to_level(slope)

    def test_all_small_slopes(self):
        for slope in slopes_to(40):
            self.assert_leads_to_level(slope)

    def test_to_a_thousand_either_way(self):
        for slope in LARGE_SLOPES:
            self.assert_leads_to_level(slope)
        for a in range(-1000, 1001, 13):
            for c in range(1, 1001, 17):
                if gcd(a, c) == 1:
                    self.assert_leads_to_level((a, c))

    def test_the_same_when_asked_again(self):
        self.assertEqual(slope_table((377, 610)), slope_table((377, 610)))


class Refused(unittest.TestCase):
    def assert_refused(self, pair):
        with self.assertRaises(NoSlope) as taken:
            slope_table(pair)
        self.assertIsInstance(taken.exception, FloorError)

    def test_noughts(self):
        for pair in ((0, 0), (-1, 0), (2, 0), (0, 2), (-2, 0), (0, 3), (1000, 0), (-1000, 0), (0, 1000)):
            self.assert_refused(pair)

    def test_second_number_below_0(self):
        for pair in ((0, -1), (1, -1), (-1, -1), (3, -2), (-3, -2), (0, -2), (2, -4), (1000, -999), (-1, -1000)):
            self.assert_refused(pair)

    def test_common_divisors(self):
        for pair in ((2, 2), (-2, 2), (4, 6), (-9, 6), (6, 3), (35, 21), (1000, 998), (-1000, 1000), (999, 27)):
            self.assert_refused(pair)

    def test_all_small_pairs(self):
        slopes = slopes_to(12)
        for a in range(-12, 13):
            for c in range(-12, 13):
                if (a, c) not in slopes:
                    self.assert_refused((a, c))

    def test_to_a_thousand_either_way(self):
        for a in EDGES:
            for c in EDGES:
                self.assert_refused((a, -c))
                self.assert_refused((-a, -c))
                if gcd(a, c) > 1:
                    self.assert_refused((a, c))
                    self.assert_refused((-a, c))


class SlopeSteps(unittest.TestCase):
    def test_by_hand(self):
        self.assertEqual(slope_steps((1, 0)), "r")
        self.assertEqual(slope_steps((0, 1)), "u")
        self.assertEqual(slope_steps((1, 1)), "ru")
        self.assertEqual(slope_steps((-1, 1)), "lu")
        self.assertEqual(slope_steps((2, 1)), "rru")
        self.assertEqual(slope_steps((1, 2)), "ruu")
        self.assertEqual(slope_steps((-3, 2)), "llulu")
        self.assertEqual(slope_steps((3, 2)), "rruru")
        self.assertEqual(slope_steps((2, 5)), "ruuruuu")
        self.assertEqual(slope_steps((-5, 3)), "llullulu")

    def test_the_rule_step_by_step(self):
        for a, c in WALKED + LARGE_SLOPES[::9]:
            x = y = 0
            for step in slope_steps((a, c)):
                self.assertTrue(x < abs(a) or y < c)
                if (y + 1) * abs(a) <= c * x and y < c:
                    self.assertEqual(step, "u")
                    y += 1
                else:
                    self.assertEqual(step, "l" if a < 0 else "r")
                    x += 1
            self.assertEqual((x, y), (abs(a), c))

    def test_by_a_second_way(self):
        for slope in WALKED + LARGE_SLOPES[::9]:
            self.assertEqual(slope_steps(slope), steps_by_words(slope))
            self.assertIs(type(slope_steps(slope)), str)


class GoneOnce(unittest.TestCase):
    def test_by_hand(self):
        self.assertEqual(gone_once(ROW_WITH_COLUMN, (1, 0)), ROW_WITH_COLUMN[0])
        self.assertEqual(gone_once(ROW_WITH_COLUMN, (0, 1)), ROW_WITH_COLUMN[1])
        self.assertEqual(gone_once(ROW_WITH_COLUMN, (1, 1)), (1, 2, 3, 4, 0))
        self.assertEqual(gone_once(ROW_WITH_COLUMN, (-1, 1)), (2, 3, 1, 4, 0))
        self.assertEqual(gone_once(CORNERED, (2, 1)), (2, 1, 0))

    def test_step_by_step(self):
        for floor in FLOORS:
            for slope in SMALL_SLOPES + WALKED[::41]:
                told = gone_once(floor, slope)
                walked = [walked_by_words(floor, s, steps_by_words(slope))[-1] for s in range(len(floor[0]))]
                self.assertEqual(told, tuple(walked))
                self.assertTrue(is_turning(told))
                self.assertTrue(is_told_kind(told))

    def test_the_rings_are_as_many_and_as_long_as_the_rows_led_to(self):
        for floor in FLOORS:
            for slope in SMALL_SLOPES + WALKED[::23]:
                rings = sorted(len(ring) for ring in rings_of(gone_once(floor, slope)))
                led = led_along(floor, slope, 0)
                self.assertEqual(rings, sorted(len(row) for row in set(rows_by_words(led).values())))
                led = led_by_table(floor, slope_table(slope))
                self.assertEqual(rings, sorted(len(row) for row in rings_of(led[0])))

    def test_of_all_small_floors(self):
        for floor in small_floors()[::5]:
            for slope in slopes_to(3):
                rings = sorted(len(ring) for ring in rings_of(gone_once(floor, slope)))
                led = led_along(floor, slope, 0)
                self.assertEqual(rings, sorted(len(row) for row in set(rows_by_words(led).values())))


class LineFrom(unittest.TestCase):
    def test_by_hand(self):
        self.assertEqual(line_from(ROW_WITH_COLUMN, (1, 0), 1), (1, 2, 0))
        self.assertEqual(line_from(ROW_WITH_COLUMN, (0, 1), 4), (4, 0, 3))
        self.assertEqual(line_from(ROW_WITH_COLUMN, (1, 0), 3), (3,))
        self.assertEqual(line_from(ROW_WITH_COLUMN, (1, 1), 0), (0, 1, 1, 2, 2, 0, 3, 3, 4, 4))
        self.assertEqual(line_from(ROW_WITH_COLUMN, (-1, 1), 1), (1, 0, 3, 3, 4, 4, 0, 2, 2, 1))
        self.assertEqual(line_from(ONE_SQUARE, (-3, 2), 0), (0,) * 5)

    def test_back_only_behind_a_last_step(self):
        # The line comes by its first square amid the steps, and goes on till it is there behind a last one.
        self.assertEqual(line_from(ONE_ROW, (3, 1), 0), (0, 1, 2, 3, 3, 0, 1, 2, 2, 3, 0, 1, 1, 2, 3, 0))
        self.assertEqual(line_from(CORNERED, (2, 1), 1), (1, 0, 1))
        self.assertEqual(line_from(CORNERED, (2, 1), 0), (0, 1, 0, 2, 2, 2))

    def test_from_each_square(self):
        for floor in FLOORS:
            for slope in SMALL_SLOPES + WALKED[::41]:
                for s in range(len(floor[0])):
                    told = line_from(floor, slope, s)
                    self.assertEqual(told, line_by_words(floor, slope, s))
                    self.assertEqual(told[0], s)
                    self.assertTrue(is_told_kind(told))

    def test_as_long_as_its_ring(self):
        for floor in (STAIRS, UNLIKE_ROWS, ROW_WITH_COLUMN):
            for slope in SMALL_SLOPES:
                count = len(slope_steps(slope))
                for ring in rings_of(gone_once(floor, slope)):
                    for s in ring:
                        told = line_from(floor, slope, s)
                        self.assertEqual(len(told), count * len(ring))
                        self.assertEqual(sorted(told[::count]), sorted(ring))

    def test_the_same_when_asked_again(self):
        first = line_from(STAIRS, (-3, 2), 4)
        line_from(FOUR, (2, 3), 1)
        self.assertEqual(line_from(STAIRS, (-3, 2), 4), first)


class BandsAlong(unittest.TestCase):
    def test_by_hand(self):
        self.assertEqual(bands_along(CORNERED, (1, 0)), ((1, 1), (2, 1)))
        self.assertEqual(bands_along(CORNERED, (0, 1)), ((1, 1), (2, 1)))
        self.assertEqual(bands_along(CORNERED, (1, 1)), ((3, 1),))
        self.assertEqual(bands_along(ROW_WITH_COLUMN, (1, 0)), ((1, 2), (3, 1)))
        self.assertEqual(bands_along(ROW_WITH_COLUMN, (0, 1)), ((1, 2), (3, 1)))
        self.assertEqual(bands_along(ROW_WITH_COLUMN, (1, 1)), ((5, 1),))
        self.assertEqual(bands_along(ONE_ROW, (0, 1)), ((1, 4),))
        self.assertEqual(bands_along(ONE_ROW, (4, 1)), ((1, 4),))
        self.assertEqual(bands_along(ONE_ROW, (2, 1)), ((2, 2),))
        self.assertEqual(bands_along(ONE_SQUARE, (-1000, 999)), ((1, 1),))

    def test_level_they_are_the_floors_own(self):
        for floor in FLOORS + small_floors():
            self.assertEqual(bands_along(floor, (1, 0)), tuple(band[:2] for band in bands_of(floor)))
            self.assertEqual(bands_along(floor, (1, 0)), tuple(sorted(band[:2] for band in bands_by_words(floor))))

    def test_by_other_tables(self):
        for floor in FLOORS:
            for slope in SMALL_SLOPES:
                told = bands_along(floor, slope)
                self.assertTrue(is_told_kind(told))
                for k in (0, 1, -3):
                    self.assertEqual(told, bands_by_other_table(floor, slope, k), (floor, slope))

    def test_to_a_thousand_either_way(self):
        for floor in (CORNERED, FOUR, ROW_WITH_COLUMN, STAIRS, UNLIKE_ROWS, OF_12_ROWS, LARGER[-1]):
            for slope in LARGE_SLOPES[::3]:
                self.assertEqual(bands_along(floor, slope), bands_by_other_table(floor, slope))

    def test_those_of_the_floor_led_by_the_slopes_table(self):
        for floor in FLOORS:
            for slope in SMALL_SLOPES + LARGE_SLOPES[::29]:
                led = led_by_table(floor, slope_table(slope))
                self.assertEqual(bands_along(floor, slope), tuple(sorted(band[:2] for band in bands_by_words(led))))

    def test_the_same_for_the_floor_called_anew(self):
        for floor in FLOORS:
            p = turning_of_rank(len(floor[0]), 4321)
            for slope in SMALL_SLOPES + LARGE_SLOPES[::29]:
                self.assertEqual(bands_along(called_anew(floor, p), slope), bands_along(floor, slope))

    def test_widths_times_heights_come_to_all_squares(self):
        for floor in FLOORS:
            for slope in SMALL_SLOPES + LARGE_SLOPES[::29]:
                told = bands_along(floor, slope)
                self.assertEqual(sum(width * height for width, height in told), len(floor[0]))
                self.assertEqual(told, tuple(sorted(told)))

    def test_the_rings_of_gone_once_are_their_rows(self):
        for floor in FLOORS:
            for slope in SMALL_SLOPES:
                rows = [width for width, height in bands_along(floor, slope) for _ in range(height)]
                self.assertEqual(sorted(rows), sorted(len(ring) for ring in rings_of(gone_once(floor, slope))))

    def test_the_same_when_asked_again(self):
        first = bands_along(STAIRS, (-377, 610))
        bands_along(FOUR, (2, 3))
        self.assertEqual(bands_along(STAIRS, (-377, 610)), first)


if __name__ == "__main__":
    unittest.main()
