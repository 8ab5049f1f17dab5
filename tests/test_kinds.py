import unittest
from itertools import product

from samples import (
    CORNERED, FOUR, OF_12_ROWS, OF_20_ROWS, OF_32_ROWS, OF_36_ROWS, OF_96_ROWS, ONE_COLUMN, ONE_ROW, ONE_SQUARE,
    ROW_WITH_COLUMN, TWO_BY_TWO, all_led, brings_back, form_by_words, is_told_kind, led_by_words, slopes_to,
    small_floors, small_word, spread_floors, table_by_words, times_by_words, undone_by_words,
)
from shearfloor.charts import chart_of
from shearfloor.groups import is_of_group
from shearfloor.kinds import kind_at, kind_table, kinds_of
from shearfloor.meeting import meet
from shearfloor.slopes import slope_table

SMALL_FORMS = sorted({form_by_words(floor) for floor in small_floors()})
NAMED = [
    ONE_SQUARE, ONE_ROW, ONE_COLUMN, CORNERED, FOUR, ROW_WITH_COLUMN, TWO_BY_TWO, OF_12_ROWS, OF_20_ROWS, OF_32_ROWS,
    OF_36_ROWS,
]
LARGER = [floor for floor in spread_floors(5, 8) + spread_floors(6, 8) if len(all_led(floor)) <= 60]
FLOORS = SMALL_FORMS + NAMED + LARGER
SLOPES = slopes_to(3)
LARGE_SLOPES = [(1000, 999), (-1000, 1), (1, 1000), (-999, 1000), (377, 610), (-610, 987), (500, 3), (997, 991)]
ROW_OF_SIX = ((1, 2, 3, 4, 5, 0), (0, 1, 2, 3, 4, 5))


def brought_together(chart):
    """A second way to kinds: rows, and those to which s and t twice lead, are brought together till nothing changes."""
    kinds = [{number} for number in range(len(chart))]
    for number, row in enumerate(chart):
        for other in (row[2], chart[row[3]][3]):
            one = [kind for kind in kinds if number in kind or other in kind]
            kinds = [kind for kind in kinds if kind not in one] + [set().union(*one)]
    return tuple(sorted(tuple(sorted(kind)) for kind in kinds))


def between(one, other, k, sign):
    """One of all tables that lead the one slope to the other, or to it times -1; sign is 1 or -1."""
    level = (sign, sign * k, 0, sign)
    return times_by_words(undone_by_words(slope_table(other)), times_by_words(level, slope_table(one)))


class KindsOf(unittest.TestCase):
    def test_by_hand(self):
        self.assertEqual(kinds_of(chart_of(ONE_SQUARE)), ((0,),))
        self.assertEqual(kinds_of(chart_of(TWO_BY_TWO)), ((0,),))
        # A row of two, sheared, and a column of two.
        self.assertEqual(kinds_of(chart_of(((1, 0), (0, 1)))), ((0, 1), (2,)))
        self.assertEqual(kinds_of(chart_of(((0, 1), (1, 0)))), ((0,), (1, 2)))
        self.assertEqual(kinds_of(chart_of(CORNERED)), ((0, 1), (2,)))

    def test_how_many(self):
        counts = {ONE_ROW: 3, ONE_COLUMN: 3, FOUR: 2, ROW_OF_SIX: 4, OF_12_ROWS: 3, OF_36_ROWS: 8}
        for floor, count in counts.items():
            self.assertEqual(len(kinds_of(chart_of(floor))), count, floor)

    def test_by_a_second_way(self):
        for floor in FLOORS:
            chart = chart_of(floor)
            told = kinds_of(chart)
            self.assertEqual(told, brought_together(chart))
            self.assertTrue(is_told_kind(told))

    def test_half_turns_bring_rows_together_that_shears_dont(self):
        for floor in (OF_12_ROWS, OF_20_ROWS, OF_32_ROWS):
            chart = chart_of(floor)
            for kind in kinds_of(chart):
                ring = [kind[0]]
                while chart[ring[-1]][2] != kind[0]:
                    ring.append(chart[ring[-1]][2])
                if len(ring) < len(kind):
                    break
            else:
                self.fail("shears alone come to all of each kind")

    def test_sorted_rising_each_row_once_and_shut(self):
        for floor in FLOORS:
            chart = chart_of(floor)
            told = kinds_of(chart)
            self.assertEqual(sorted(number for kind in told for number in kind), list(range(len(chart))))
            self.assertEqual(list(told), sorted(told))
            for kind in told:
                self.assertEqual(list(kind), sorted(kind))
                for number in kind:
                    self.assertIn(chart[number][2], kind)
                    self.assertIn(chart[chart[number][3]][3], kind)

    def test_as_many_for_all_floors_to_which_words_lead(self):
        for floor in (CORNERED, FOUR, ROW_WITH_COLUMN, OF_12_ROWS):
            sizes = sorted(len(kind) for kind in kinds_of(chart_of(floor)))
            for row in chart_of(floor):
                self.assertEqual(sorted(len(kind) for kind in kinds_of(chart_of(row[0]))), sizes)

    def test_of_charts_told_otherwise(self):
        self.assertEqual(kinds_of(meet(FOUR, ONE_SQUARE)[1]), kinds_of(chart_of(FOUR)))
        chart = chart_of(OF_96_ROWS, 96)
        self.assertEqual(kinds_of(chart), brought_together(chart))

    def test_the_same_when_asked_again(self):
        chart = chart_of(OF_36_ROWS)
        first = kinds_of(chart)
        kinds_of(chart_of(FOUR))
        self.assertEqual(kinds_of(chart), first)
        self.assertEqual(chart, chart_of(OF_36_ROWS))


class KindAt(unittest.TestCase):
    def test_by_hand(self):
        # Of a row of two, each second square of a line upward is as wide as one: rows 0 and 1, and the column, row 2.
        chart = chart_of(((1, 0), (0, 1)))
        self.assertEqual([kind_at(chart, slope) for slope in ((1, 0), (0, 1), (1, 1), (2, 1))], [0, 1, 0, 1])
        chart = chart_of(CORNERED)
        self.assertEqual([kind_at(chart, slope) for slope in ((1, 0), (0, 1), (1, 1), (-1, 1))], [0, 0, 1, 1])
        self.assertEqual(kind_at(chart_of(ONE_SQUARE), (-7, 3)), 0)

    def test_level_is_the_first(self):
        for floor in FLOORS:
            self.assertEqual(kind_at(chart_of(floor), (1, 0)), 0)

    def test_by_the_floor_led(self):
        for floor in FLOORS:
            chart = chart_of(floor)
            forms = [row[0] for row in chart]
            kinds = brought_together(chart)
            for slope in SLOPES + LARGE_SLOPES:
                told = kind_at(chart, slope)
                self.assertIs(type(told), int)
                led = form_by_words(led_by_words(chart[0][0], small_word(slope_table(slope))))
                self.assertIn(forms.index(led), kinds[told])

    def test_each_kind_is_that_of_a_slope(self):
        for floor in FLOORS:
            chart = chart_of(floor)
            slopes = []
            for row in chart:
                # The row's word leads this pair to (1, 0).
                a, b, c, d = table_by_words(row[1])
                slopes.append((d, -c) if c < 0 or c == 0 and d == 1 else (-d, c))
            told = [kind_at(chart, slope) for slope in slopes]
            kinds = brought_together(chart)
            self.assertEqual(told, [[number in kind for kind in kinds].index(True) for number in range(len(chart))])

    def test_of_a_larger_chart(self):
        chart = chart_of(OF_96_ROWS, 96)
        forms = [row[0] for row in chart]
        for slope in SLOPES:
            led = form_by_words(led_by_words(chart[0][0], small_word(slope_table(slope))))
            self.assertIn(forms.index(led), kinds_of(chart)[kind_at(chart, slope)])

    def test_the_same_when_asked_again(self):
        chart = chart_of(OF_36_ROWS)
        first = kind_at(chart, (-3, 2))
        kind_at(chart, (1, 2))
        self.assertEqual(kind_at(chart, (-3, 2)), first)


class KindTable(unittest.TestCase):
    def assert_leads(self, floor, table, one, other):
        self.assertTrue(is_told_kind(table))
        self.assertIs(type(table), tuple)
        self.assertEqual(len(table), 4)
        a, b, c, d = table
        self.assertEqual(a * d - b * c, 1)
        led = (a * one[0] + b * one[1], c * one[0] + d * one[1])
        self.assertIn(led, (other, (-other[0], -other[1])))
        self.assertTrue(brings_back(floor, table))
        self.assertIs(is_of_group(floor, table), True)

    def test_a_slope_and_itself(self):
        for floor in FLOORS:
            chart = chart_of(floor)
            for slope in SLOPES[::3] + LARGE_SLOPES[::3]:
                self.assert_leads(floor, kind_table(chart, slope, slope), slope, slope)

    def assert_told_by_kinds(self, floor, slopes):
        chart = chart_of(floor)
        for one, other in product(slopes, repeat=2):
            table = kind_table(chart, one, other)
            if kind_at(chart, one) == kind_at(chart, other):
                self.assert_leads(floor, table, one, other)
            else:
                self.assertIsNone(table)

    def test_all_small_pairs(self):
        for floor in NAMED + LARGER[:2]:
            self.assert_told_by_kinds(floor, SLOPES)

    def test_small_forms(self):
        for floor in SMALL_FORMS:
            self.assert_told_by_kinds(floor, SLOPES[::2])

    def test_to_a_thousand_either_way(self):
        for floor in (CORNERED, ROW_WITH_COLUMN, OF_12_ROWS, OF_32_ROWS):
            self.assert_told_by_kinds(floor, LARGE_SLOPES + [(1, 0), (0, 1)])

    def test_no_table_where_none_is_told(self):
        # All tables from the one slope to the other are tried; shears of 60 bring back rows of at most six squares.
        told = []
        for floor in (ONE_ROW, CORNERED, FOUR, OF_12_ROWS):
            chart = chart_of(floor)
            for one, other in product(((1, 0), (0, 1), (1, 1), (-1, 1), (2, 1), (1, 2)), repeat=2):
                tables = [between(one, other, k, sign) for k in range(60) for sign in (1, -1)]
                found = any(brings_back(floor, table) for table in tables)
                told.append(kind_table(chart, one, other) is not None)
                self.assertEqual(told[-1], found, (floor, one, other))
        self.assertEqual(set(told), {True, False})

    def test_turned_about_where_it_must_be(self):
        # No table of these groups leads each of these to the other itself.
        turned = []
        for floor in (OF_12_ROWS, OF_20_ROWS, OF_32_ROWS):
            chart = chart_of(floor)
            for one, other in product(SLOPES[:9], repeat=2):
                table = kind_table(chart, one, other)
                if table is not None and not any(brings_back(floor, between(one, other, k, 1)) for k in range(60)):
                    turned.append((one, other))
                    self.assert_leads(floor, table, one, other)
        self.assertNotEqual(turned, [])

    def test_of_one_kind_just_where_tables_of_the_group_lead(self):
        # Point [3]: small tables of the group lead slopes to slopes of their kind.
        tables = [table for table in product(range(-3, 4), repeat=4) if table[0] * table[3] - table[1] * table[2] == 1]
        for floor in (CORNERED, FOUR, ROW_WITH_COLUMN, OF_12_ROWS):
            chart = chart_of(floor)
            of_group = [table for table in tables if brings_back(floor, table)]
            for (a, b, c, d), (x, y) in product(of_group, SLOPES[::2]):
                led = (a * x + b * y, c * x + d * y)
                if led[1] < 0 or led == (-1, 0):
                    led = (-led[0], -led[1])
                self.assertEqual(kind_at(chart, led), kind_at(chart, (x, y)))

    def test_the_same_when_asked_again(self):
        chart = chart_of(OF_36_ROWS)
        pairs = list(product(SLOPES[:6], repeat=2))
        first = [kind_table(chart, one, other) for one, other in pairs]
        self.assertEqual([kind_table(chart, one, other) for one, other in pairs], first)
        self.assertEqual(chart, chart_of(OF_36_ROWS))


if __name__ == "__main__":
    unittest.main()
