import unittest
from itertools import product

from samples import (
    CORNERED, FOUR, OF_120_ROWS, OF_36_ROWS, OF_96_ROWS, ONE_COLUMN, ONE_ROW, ONE_SQUARE, ROW_WITH_COLUMN,
    TWENTY_SQUARES, TWO_BY_TWO, all_floors, all_led, all_turnings, form_by_words, is_plain_word, is_told_kind,
    led_by_words, small_floors, spread_floors, step_by_words, turning_of_rank,
)
from shearfloor.anew import called_anew, callings, form_of
from shearfloor.charts import chart_holds, chart_of
from shearfloor.dividing import word_of
from shearfloor.errors import FloorError, TooMany
from shearfloor.leading import led_by
from shearfloor.words import put_together, table_of

SMALL_FORMS = sorted({form_by_words(floor) for floor in small_floors()})
NAMED = [ONE_SQUARE, ONE_ROW, ONE_COLUMN, CORNERED, FOUR, ROW_WITH_COLUMN, TWO_BY_TWO, OF_36_ROWS]
LARGER = [floor for floor in spread_floors(5, 8) + spread_floors(6, 8) if len(all_led(floor)) <= 60]
STEPS = (("s", 1), ("s", -1), ("s", 2), ("t", 1), ("t", 2), ("t", 3))
SMALL_WORDS = [word for count in (0, 1, 2, 3) for word in product(STEPS, repeat=count)]
ROW_OF_TWO = ((1, 0), (0, 1))
COLUMN_OF_TWO = ((0, 1), (1, 0))
SLANTED = ((1, 0), (1, 0))


def chart_by_words(floor):
    """A second way to a floor's chart, as the document tells it."""
    rows = [[form_by_words(floor), ()]]
    for row in rows:
        for letter in "st":
            form = form_by_words(step_by_words(row[0], letter, 1))
            if form not in [other[0] for other in rows]:
                rows.append([form, put_together(row[1], ((letter, 1),))])
            row.append([other[0] for other in rows].index(form))
    return tuple(tuple(row) for row in rows)


def reordered(chart, order):
    """The chart with the row of number order[k] at place k, s and t renumbered."""
    place = {number: k for k, number in enumerate(order)}
    return tuple((chart[k][0], chart[k][1], place[chart[k][2]], place[chart[k][3]]) for k in order)


def with_row(chart, place, row):
    return chart[:place] + (row,) + chart[place + 1:]


class ChartOf(unittest.TestCase):
    def test_one_square(self):
        self.assertEqual(chart_of(ONE_SQUARE), ((ONE_SQUARE, (), 0, 0),))

    def test_two_squares_by_hand(self):
        self.assertEqual(chart_of(ROW_OF_TWO), (
            (ROW_OF_TWO, (), 1, 2), (SLANTED, (("s", 1),), 0, 1), (COLUMN_OF_TWO, (("t", 1),), 2, 0),
        ))
        self.assertEqual(chart_of(COLUMN_OF_TWO), (
            (COLUMN_OF_TWO, (), 0, 1), (ROW_OF_TWO, (("t", 1),), 2, 0), (SLANTED, (("t", 1), ("s", 1)), 1, 2),
        ))

    def test_words_are_put_together(self):
        self.assertEqual(
            [row[1] for row in chart_of(((1, 2, 0), (0, 1, 2)))],
            [(), (("s", 1),), (("t", 1),), (("s", 2),)],
        )

    def test_how_many_rows(self):
        counts = {
            ONE_ROW: 6, ONE_COLUMN: 6, TWO_BY_TWO: 1, CORNERED: 3, FOUR: 4, OF_36_ROWS: 36,
            ((1, 2, 3, 4, 5, 0), (0, 1, 2, 3, 4, 5)): 12, ((1, 2, 3, 0), (3, 2, 0, 1)): 9,
        }
        for floor, count in counts.items():
            self.assertEqual(len(chart_of(floor)), count, floor)

    def test_by_a_second_way(self):
        for floor in SMALL_FORMS + NAMED + LARGER:
            told = chart_of(floor)
            self.assertEqual(told, chart_by_words(floor))
            self.assertTrue(is_told_kind(told))

    def test_row_0_and_words_to_each(self):
        for floor in SMALL_FORMS + NAMED + LARGER:
            told = chart_of(floor)
            self.assertEqual(told[0][:2], (form_by_words(floor), ()))
            for form, word, s, t in told:
                self.assertTrue(is_plain_word(word))
                self.assertEqual(form_by_words(led_by_words(floor, word)), form)
                self.assertEqual(told[s][0], form_by_words(step_by_words(form, "s", 1)))
                self.assertEqual(told[t][0], form_by_words(step_by_words(form, "t", 1)))

    def test_each_floor_to_which_words_lead_is_in_it_once(self):
        for floor in SMALL_FORMS + NAMED + LARGER:
            forms = [row[0] for row in chart_of(floor)]
            self.assertEqual(len(set(forms)), len(forms))
            for word in SMALL_WORDS[::7]:
                self.assertIn(form_of(led_by(floor, word)), forms)

    def test_all_small_forms_are_parted_by_charts(self):
        left = set(SMALL_FORMS)
        while left:
            forms = {row[0] for row in chart_of(min(left))}
            self.assertLessEqual(forms, left)
            left -= forms

    def test_the_same_for_the_floor_called_anew(self):
        for floor in (CORNERED, FOUR, ONE_ROW, TWO_BY_TWO):
            for p in all_turnings(len(floor[0])):
                self.assertEqual(chart_of(called_anew(floor, p)), chart_of(floor))
        for floor in LARGER:
            p = turning_of_rank(len(floor[0]), 97)
            self.assertEqual(chart_of(called_anew(floor, p)), chart_of(floor))

    def test_the_same_when_asked_again(self):
        first = chart_of(FOUR)
        chart_of(CORNERED)
        self.assertEqual(chart_of(FOUR), first)
        self.assertEqual(FOUR, ((1, 2, 0, 3), (3, 2, 1, 0)))


class Refused(unittest.TestCase):
    def assert_refused(self, floor, most):
        with self.assertRaises(TooMany) as taken:
            chart_of(floor, most)
        self.assertEqual(taken.exception.most, most)
        self.assertIs(type(taken.exception.most), int)
        self.assertIsInstance(taken.exception, FloorError)

    def test_with_just_as_many_and_one_fewer(self):
        for floor in SMALL_FORMS + NAMED + LARGER:
            count = len(all_led(floor))
            self.assertEqual(chart_of(floor, count), chart_by_words(floor))
            if count < 60:
                self.assertEqual(chart_of(floor, count + 1), chart_by_words(floor))
            if count > 1:
                self.assert_refused(floor, count - 1)
                self.assert_refused(floor, 1)

    def test_each_number_below(self):
        for most in range(1, 36):
            self.assert_refused(OF_36_ROWS, most)
        for most in range(36, 61):
            self.assertEqual(len(chart_of(OF_36_ROWS, most)), 36)

    def test_with_most_left_out_it_is_60(self):
        for floor in (OF_96_ROWS, OF_120_ROWS):
            with self.assertRaises(TooMany) as taken:
                chart_of(floor)
            self.assertEqual(taken.exception.most, 60)
            self.assert_refused(floor, 60)
        self.assertEqual(chart_of(OF_36_ROWS), chart_of(OF_36_ROWS, 60))
        self.assertEqual(chart_of.__defaults__, (60,))


class ChartHolds(unittest.TestCase):
    def setUp(self):
        self.charts = [(floor, chart_by_words(floor)) for floor in NAMED + LARGER[:4]]

    def test_told_charts(self):
        for floor in SMALL_FORMS + NAMED + LARGER:
            self.assertIs(chart_holds(floor, chart_of(floor)), True)

    def test_for_the_floor_called_anew(self):
        for floor, chart in self.charts:
            self.assertIs(chart_holds(called_anew(floor, turning_of_rank(len(floor[0]), 51)), chart), True)

    def test_another_order_behind_the_first(self):
        for floor, chart in self.charts:
            behind = list(range(1, len(chart)))
            orders = [[0] + behind[::-1], [0] + behind[1:] + behind[:1], [0] + behind[::2] + behind[1::2]]
            for order in orders:
                self.assertIs(chart_holds(floor, reordered(chart, order)), True)

    def test_floors_called_anew(self):
        for floor, chart in self.charts:
            rows = []
            for number, row in enumerate(chart):
                p = turning_of_rank(len(floor[0]), 31 * number + 5)
                rows.append((called_anew(row[0], p),) + row[1:])
            self.assertIs(chart_holds(floor, tuple(rows)), True)
            order = [0] + list(range(len(chart) - 1, 0, -1))
            self.assertIs(chart_holds(floor, reordered(tuple(rows), order)), True)

    def test_words_written_otherwise(self):
        for floor, chart in self.charts:
            rows = [(row[0], word_of(table_of(row[1])), row[2], row[3]) for row in chart]
            self.assertIs(chart_holds(floor, tuple(rows)), True)
            nothing = (("s", 1), ("t", 1)) * 6
            first = (chart[0][0], nothing, chart[0][2], chart[0][3])
            self.assertIs(chart_holds(floor, with_row(chart, 0, first)), True)

    def test_no_rows(self):
        for floor, chart in self.charts:
            self.assertIs(chart_holds(floor, ()), False)

    def test_a_first_row_that_isnt_alike(self):
        for floor, chart in self.charts:
            for first in range(1, len(chart)):
                order = [first] + [k for k in range(len(chart)) if k != first]
                self.assertIs(chart_holds(floor, reordered(chart, order)), False)

    def test_charts_of_other_floors(self):
        floors = SMALL_FORMS[::2] + NAMED
        for one, other in product(floors, repeat=2):
            alike = form_by_words(one) == form_by_words(other)
            self.assertIs(chart_holds(one, chart_of(other)), alike)
        for floor in floors:
            self.assertIs(chart_holds(TWENTY_SQUARES, chart_of(floor)), False)

    def test_a_word_that_leads_elsewhere(self):
        for floor, chart in self.charts:
            for place in range(0, len(chart), 1 + len(chart) // 4):
                row = chart[place]
                for word in SMALL_WORDS[:43:3] + [(("s", 1000), ("t", 1), ("s", -999))]:
                    held = form_by_words(led_by(floor, word)) == row[0]
                    changed = with_row(chart, place, (row[0], word, row[2], row[3]))
                    self.assertIs(chart_holds(floor, changed), held)

    def test_an_s_or_t_that_is_no_rows_or_another_rows(self):
        for floor, chart in self.charts:
            count = len(chart)
            for place in range(0, count, 1 + count // 4):
                for part in (2, 3):
                    right = chart[place][part]
                    numbers = [right, right - count, right + count, -1, -count, count, count + 1, 1000, -1000]
                    for number in numbers + list(range(min(count, 9))):
                        row = list(chart[place])
                        row[part] = number
                        self.assertIs(chart_holds(floor, with_row(chart, place, tuple(row))), number == right)

    def test_s_and_t_of_one_row_below_0(self):
        self.assertIs(chart_holds(ONE_SQUARE, ((ONE_SQUARE, (), 0, 0),)), True)
        self.assertIs(chart_holds(ONE_SQUARE, ((ONE_SQUARE, (), -1, 0),)), False)
        self.assertIs(chart_holds(ONE_SQUARE, ((ONE_SQUARE, (), 0, -1),)), False)
        self.assertIs(chart_holds(ONE_SQUARE, ((ONE_SQUARE, (), 1, 0),)), False)
        self.assertIs(chart_holds(ONE_SQUARE, ((ONE_SQUARE, (), 0, 1),)), False)

    def test_s_and_t_changed_for_one_another(self):
        for floor, chart in self.charts:
            changed = tuple((row[0], row[1], row[3], row[2]) for row in chart)
            self.assertIs(chart_holds(floor, changed), changed == chart)

    def test_a_row_left_out(self):
        for floor, chart in self.charts:
            for place in range(1, len(chart)):
                left = chart[:place] + chart[place + 1:]
                self.assertIs(chart_holds(floor, left), False)
                for instead in (0, len(left) - 1):
                    shut = []
                    for row in left:
                        ends = [instead if k == place else k - (k > place) for k in row[2:]]
                        shut.append(row[:2] + tuple(ends))
                    self.assertIs(chart_holds(floor, tuple(shut)), False)

    def test_a_row_twice(self):
        for floor, chart in self.charts:
            for row in chart:
                self.assertIs(chart_holds(floor, chart + (row,)), False)
            p = turning_of_rank(len(floor[0]), 11)
            again = (called_anew(chart[-1][0], p),) + chart[-1][1:]
            self.assertIs(chart_holds(floor, chart + (again,)), False)
            self.assertIs(chart_holds(floor, chart + chart), False)

    def test_two_rows_alike_each_led_to(self):
        # Twice the rows, and each row's s and t lead to rows that are right, half of them to those behind.
        for floor, chart in self.charts:
            count = len(chart)
            first = tuple((row[0], row[1], row[2] + count, row[3]) for row in chart)
            self.assertIs(chart_holds(floor, first + chart), False)

    def test_rows_of_a_floor_of_another_count(self):
        for other in (ONE_SQUARE, ROW_OF_TWO, TWO_BY_TWO, TWENTY_SQUARES):
            for floor in (CORNERED, ROW_WITH_COLUMN):
                chart = chart_by_words(floor)
                count = len(chart)
                self.assertIs(chart_holds(floor, chart + ((other, (), count, count),)), False)
                for place in range(count):
                    changed = with_row(chart, place, (other,) + chart[place][1:])
                    self.assertIs(chart_holds(floor, changed), False)
        # Shut under both, with a row that no word leads to.
        apart = chart_by_words(CORNERED) + ((ONE_SQUARE, (), 3, 3),)
        self.assertIs(chart_holds(CORNERED, apart), False)

    def test_another_shut_chart_behind(self):
        for other in (ONE_ROW, TWO_BY_TWO):
            chart = chart_by_words(FOUR)
            behind = tuple((row[0], row[1], row[2] + len(chart), row[3] + len(chart)) for row in chart_by_words(other))
            self.assertIs(chart_holds(FOUR, chart + behind), False)

    def test_a_row_with_another_floor_of_the_count(self):
        chart = chart_by_words(CORNERED)
        others = sorted({form_by_words(floor) for floor in all_floors(3)})
        for place, row in enumerate(chart):
            for other in others:
                changed = with_row(chart, place, (other,) + row[1:])
                self.assertIs(chart_holds(CORNERED, changed), other == row[0])

    def test_the_same_when_asked_again(self):
        chart = chart_by_words(FOUR)
        self.assertEqual([chart_holds(FOUR, chart), chart_holds(FOUR, chart)], [True, True])
        self.assertEqual(chart, chart_by_words(FOUR))


class CalledAsItself(unittest.TestCase):
    """Point [3]: as many ways to call a floor anew as itself for all floors to which words lead."""

    def test_as_many_for_each_row(self):
        for floor in SMALL_FORMS + NAMED + LARGER:
            ways = len(callings(floor, floor))
            self.assertEqual([len(callings(row[0], row[0])) for row in chart_of(floor)], [ways] * len(all_led(floor)))

    def test_as_many_led_by_words(self):
        for floor in (ONE_ROW, TWO_BY_TWO, CORNERED, OF_96_ROWS):
            ways = len(callings(floor, floor))
            for word in SMALL_WORDS[::5]:
                led = led_by(floor, word)
                self.assertEqual(len(callings(led, led)), ways)


if __name__ == "__main__":
    unittest.main()
