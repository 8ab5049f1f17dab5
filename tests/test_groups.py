import unittest
from itertools import product

from samples import (
    CORNERED, FOUR, OF_12_ROWS, OF_20_ROWS, OF_32_ROWS, OF_36_ROWS, OF_96_ROWS, ONE_COLUMN, ONE_ROW, ONE_SQUARE,
    ROW_WITH_COLUMN, TWO_BY_TWO, all_led, all_turnings, brings_back, form_by_words, is_told_kind, led_by_words,
    small_floors, spread_floors, table_by_words, times_by_words, turning_of_rank, undone_by_words,
)
from shearfloor.anew import called_anew
from shearfloor.charts import chart_of
from shearfloor.groups import is_of_group, makers_of, written_by
from shearfloor.kinds import kind_table
from shearfloor.meeting import meet

UNMOVED = (1, 0, 0, 1)
SMALL_FORMS = sorted({form_by_words(floor) for floor in small_floors()})
NAMED = [
    ONE_SQUARE, ONE_ROW, ONE_COLUMN, CORNERED, FOUR, ROW_WITH_COLUMN, TWO_BY_TWO, OF_12_ROWS, OF_20_ROWS, OF_32_ROWS,
    OF_36_ROWS,
]
LARGER = [floor for floor in spread_floors(5, 8) + spread_floors(6, 8) if len(all_led(floor)) <= 60]
FLOORS = SMALL_FORMS + NAMED + LARGER
SMALL_TABLES = [
    table for table in product(range(-3, 4), repeat=4) if table[0] * table[3] - table[1] * table[2] == 1
]
# Three squares in a row, the row sewn on to itself; sheared and turned it comes to alike floors.
BOTH_STEPS_ALIKE = ((1, 2, 0), (2, 0, 1))


def come_to(makers, pairs):
    """What the makers come to, undone where it is -1, the later one times those ahead."""
    table = UNMOVED
    for number, way in pairs:
        maker = makers[number] if way == 1 else undone_by_words(makers[number])
        table = times_by_words(maker, table)
    return table


def makers_by_words(floor):
    """A second way to the makers: while the chart is made anew it is written down which step put each row behind."""
    rows = [(form_by_words(floor), ())]
    made = []
    put_behind_by = {0: None}
    leads = []
    for number, (form, word) in enumerate(rows):
        for letter in "st":
            led = form_by_words(led_by_words(form, ((letter, 1),)))
            forms = [row[0] for row in rows]
            if led not in forms:
                put_behind_by[len(rows)] = (number, letter)
                rows.append((led, word + ((letter, 1),)))
            leads.append((number, letter, [row[0] for row in rows].index(led)))
    for number, letter, reached in leads:
        if put_behind_by[reached] != (number, letter):
            to_it = table_by_words(rows[number][1] + ((letter, 1),))
            made.append(times_by_words(undone_by_words(table_by_words(rows[reached][1])), to_it))
    return tuple(made)


def long_shears(floor):
    """Shears along rows and along columns, also turned by half, that bring the floor back."""
    tables = []
    for number in (1000, 999, 990, 960, 840, 60, 12, 5, 4, 3, 2, 1):
        for k in (number, -number):
            tables += [(1, k, 0, 1), (1, 0, k, 1), (-1, k, 0, -1), (-1, 0, k, -1)]
    return [table for table in tables if brings_back(floor, table)]


class IsOfGroup(unittest.TestCase):
    def test_unmoved(self):
        for floor in FLOORS + [OF_96_ROWS]:
            self.assertIs(is_of_group(floor, UNMOVED), True)

    def test_by_hand(self):
        row = ((1, 0), (0, 1))
        self.assertIs(is_of_group(row, (1, 2, 0, 1)), True)
        self.assertIs(is_of_group(row, (1, 1, 0, 1)), False)
        self.assertIs(is_of_group(row, (1, 0, 1, 1)), True)
        self.assertIs(is_of_group(row, (0, -1, 1, 0)), False)
        self.assertIs(is_of_group(row, (-1, 0, 0, -1)), True)
        self.assertIs(is_of_group(CORNERED, (0, -1, 1, 0)), True)
        self.assertIs(is_of_group(CORNERED, (1, 1, 0, 1)), False)
        self.assertIs(is_of_group(CORNERED, (1, 2, 0, 1)), True)
        self.assertIs(is_of_group(OF_12_ROWS, (-1, 0, 0, -1)), False)

    def test_all_tables_of_a_square_and_of_two_by_two(self):
        for floor in (ONE_SQUARE, TWO_BY_TWO):
            for table in SMALL_TABLES + [(514229, 317811, 832040, 514229), (1, -999999, 0, 1)]:
                self.assertIs(is_of_group(floor, table), True)

    def test_all_small_tables(self):
        for floor in (ONE_ROW, CORNERED, FOUR, ROW_WITH_COLUMN, OF_12_ROWS, OF_36_ROWS, OF_96_ROWS):
            told = [is_of_group(floor, table) for table in SMALL_TABLES]
            self.assertEqual(told, [brings_back(floor, table) for table in SMALL_TABLES])
            self.assertEqual(set(told), {True, False})

    def test_makers_and_what_they_come_to(self):
        for floor in FLOORS:
            makers = makers_of(chart_of(floor))
            for maker in makers:
                self.assertIs(is_of_group(floor, maker), True)
                self.assertIs(is_of_group(floor, undone_by_words(maker)), True)
            pairs = [(number * 7 % len(makers), 1 if number % 3 else -1) for number in range(12)]
            self.assertIs(is_of_group(floor, come_to(makers, pairs)), True)

    def test_tables_that_lead_elsewhere(self):
        for floor in FLOORS:
            for row in chart_of(floor)[1:]:
                self.assertIs(is_of_group(floor, table_by_words(row[1])), False)

    def test_numbers_to_the_bound(self):
        tables = [
            (514229, 317811, 832040, 514229), (1, 1000000, 0, 1), (-1000000, 1, -1, 0), (1, 0, -1000000, 1),
            (999999, 999998, 1000000, 999999), (0, -1, 1, 999960), (-1, 999960, 0, -1), (1, 999960, 0, 1),
        ]
        for floor in NAMED:
            for table in tables:
                self.assertIs(is_of_group(floor, table), brings_back(floor, table))

    def test_the_same_for_the_floor_called_anew(self):
        for floor in (CORNERED, FOUR, ONE_ROW):
            for p in all_turnings(len(floor[0])):
                anew = called_anew(floor, p)
                for table in SMALL_TABLES[::7]:
                    self.assertIs(is_of_group(anew, table), is_of_group(floor, table))
        for floor in (OF_12_ROWS, OF_36_ROWS):
            anew = called_anew(floor, turning_of_rank(len(floor[0]), 77))
            self.assertEqual(
                [is_of_group(anew, table) for table in SMALL_TABLES],
                [is_of_group(floor, table) for table in SMALL_TABLES],
            )

    def test_told_tables_may_be_handed_on(self):
        chart = chart_of(OF_12_ROWS)
        table = kind_table(chart, (1000, 999), (1000, 999))
        self.assertIs(is_of_group(OF_12_ROWS, table), True)

    def test_the_same_when_asked_again(self):
        self.assertEqual([is_of_group(FOUR, (1, 3, 0, 1)) for _ in range(3)], [True] * 3)


class MakersOf(unittest.TestCase):
    def test_one_row(self):
        self.assertEqual(makers_of(chart_of(ONE_SQUARE)), ((1, 1, 0, 1), (0, -1, 1, 0)))
        self.assertEqual(makers_of(chart_of(TWO_BY_TWO)), ((1, 1, 0, 1), (0, -1, 1, 0)))

    def test_two_squares_by_hand(self):
        # Rows: 0 level, 1 put behind by s of 0, 2 by t of 0. Makers: s and t of row 1, s and t of row 2.
        self.assertEqual(makers_of(chart_of(((1, 0), (0, 1)))), (
            (1, 2, 0, 1), table_by_words((("s", 1), ("t", 1), ("s", -1))),
            table_by_words((("t", 1), ("s", 1), ("t", 3))), (-1, 0, 0, -1),
        ))

    def test_a_row_led_to_by_both_steps_of_one_row(self):
        # Row 1 is put behind by s of row 0, and t of row 0 leads there too.
        chart = chart_of(BOTH_STEPS_ALIKE)
        self.assertEqual([row[2:] for row in chart], [(1, 1), (2, 0), (0, 3), (3, 2)])
        self.assertEqual(makers_of(chart), (
            (-1, -1, 1, 0), table_by_words((("s", 1), ("t", 1))), (1, 3, 0, 1),
            table_by_words((("s", 2), ("t", 1), ("s", 1), ("t", 3), ("s", -2))), (-1, 0, 0, -1),
        ))
        both = [floor for floor in FLOORS if any(row[2] == row[3] > k for k, row in enumerate(chart_of(floor)))]
        self.assertGreater(len(both), 5)
        for floor in both:
            self.assertEqual(makers_of(chart_of(floor)), makers_by_words(floor))

    def test_by_a_second_way(self):
        for floor in FLOORS:
            told = makers_of(chart_of(floor))
            self.assertEqual(told, makers_by_words(floor))
            self.assertTrue(is_told_kind(told))

    def test_how_many_and_alike_ones_too(self):
        alike = 0
        for floor in FLOORS:
            chart = chart_of(floor)
            told = makers_of(chart)
            self.assertEqual(len(told), len(chart) + 1)
            alike += len(set(told)) < len(told)
        self.assertGreater(alike, 0)

    def test_each_is_of_the_group(self):
        for floor in FLOORS:
            for table in makers_of(chart_of(floor)):
                self.assertEqual(table[0] * table[3] - table[1] * table[2], 1)
                self.assertTrue(brings_back(floor, table))

    def test_of_charts_told_otherwise(self):
        self.assertEqual(makers_of(meet(FOUR, ONE_SQUARE)[1]), makers_of(chart_of(FOUR)))
        self.assertEqual(makers_of(chart_of(OF_96_ROWS, 96)), makers_by_words(OF_96_ROWS))

    def test_the_same_when_asked_again(self):
        chart = chart_of(OF_36_ROWS)
        first = makers_of(chart)
        makers_of(chart_of(FOUR))
        self.assertEqual(makers_of(chart), first)
        self.assertEqual(chart, chart_of(OF_36_ROWS))


class WrittenBy(unittest.TestCase):
    def assert_written(self, floor, table):
        chart = chart_of(floor)
        makers = makers_of(chart)
        told = written_by(chart, table)
        self.assertTrue(is_told_kind(told))
        self.assertIs(type(told), tuple)
        for pair in told:
            self.assertIs(type(pair), tuple)
            self.assertEqual(len(pair), 2)
            self.assertIn(pair[0], range(len(makers)))
            self.assertIn(pair[1], (1, -1))
        self.assertEqual(come_to(makers, told), table)

    def test_unmoved(self):
        for floor in FLOORS:
            self.assert_written(floor, UNMOVED)

    def test_makers_and_makers_undone(self):
        for floor in FLOORS:
            for maker in makers_of(chart_of(floor)):
                self.assert_written(floor, maker)
                self.assert_written(floor, undone_by_words(maker))

    def test_what_several_makers_come_to(self):
        for floor in FLOORS:
            makers = makers_of(chart_of(floor))
            for start in range(5):
                for count in (2, 3, 5):
                    pairs = [((start + 3 * k) % len(makers), 1 if (k + start) % 3 else -1) for k in range(count)]
                    self.assert_written(floor, come_to(makers, pairs))

    def test_long_shears(self):
        for floor in FLOORS:
            tables = long_shears(floor)
            self.assertGreater(len(tables), 4)
            self.assertTrue(any(table[1] < -500 for table in tables))
            for table in tables:
                self.assert_written(floor, table)

    def test_turned_by_half(self):
        for floor in NAMED:
            if brings_back(floor, (-1, 0, 0, -1)):
                self.assert_written(floor, (-1, 0, 0, -1))
            else:
                self.assertIsNone(written_by(chart_of(floor), (-1, 0, 0, -1)))

    def test_all_small_tables(self):
        for floor in NAMED:
            chart = chart_of(floor)
            for table in SMALL_TABLES:
                if brings_back(floor, table):
                    self.assert_written(floor, table)
                else:
                    self.assertIsNone(written_by(chart, table))

    def test_tables_that_lead_elsewhere(self):
        for floor in FLOORS:
            chart = chart_of(floor)
            for row in chart[1:]:
                self.assertIsNone(written_by(chart, table_by_words(row[1])))
                self.assertIsNone(written_by(chart, undone_by_words(table_by_words(row[1]))))

    def test_of_charts_told_otherwise(self):
        chart = chart_of(OF_96_ROWS, 96)
        makers = makers_of(chart)
        for maker in makers[::5]:
            self.assertEqual(come_to(makers, written_by(chart, maker)), maker)

    def test_the_same_when_asked_again(self):
        chart = chart_of(FOUR)
        first = [written_by(chart, table) for table in SMALL_TABLES]
        self.assertEqual([written_by(chart, table) for table in SMALL_TABLES], first)
        self.assertEqual(chart, chart_of(FOUR))


class RowsAndParts(unittest.TestCase):
    """Point [3]: a chart has as many rows as tables part by the makers."""

    def test_as_many_rows_as_tables_part(self):
        for floor in (ONE_SQUARE, ONE_ROW, CORNERED, FOUR, ROW_WITH_COLUMN, OF_12_ROWS):
            chart = chart_of(floor)
            parts = []
            words = [()]
            while words:
                word = words.pop(0)
                table = table_by_words(word)
                # Two tables are of one part where the one, and then the other undone, is written by makers.
                joining = [times_by_words(undone_by_words(part), table) for part in parts]
                if all(written_by(chart, other) is None for other in joining):
                    parts.append(table)
                    words += [word + (("s", 1),), word + (("t", 1),)]
            self.assertEqual(len(parts), len(chart))


if __name__ == "__main__":
    unittest.main()
