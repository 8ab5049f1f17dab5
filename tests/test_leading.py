import unittest
from itertools import product

from samples import (
    CORNERED, FOUR, ONE_COLUMN, ONE_ROW, ONE_SQUARE, ROW_WITH_COLUMN, TWO_BY_TWO, UNLIKE_ROWS, all_turnings,
    form_by_words, is_told_kind, led_by_words, small_floors, spread_floors, step_by_words, turning_of_rank,
    word_by_other_division,
)
from shearfloor.anew import called_anew, callings, form_of
from shearfloor.dividing import word_of
from shearfloor.floors import look_floor
from shearfloor.leading import led_by, led_by_table, quartered, sheared
from shearfloor.tables import times, undone
from shearfloor.words import back_word, made_plain, put_together, table_of

NAMED = [ONE_SQUARE, CORNERED, FOUR, ONE_ROW, ONE_COLUMN, ROW_WITH_COLUMN, TWO_BY_TWO]
LARGER = spread_floors(5, 6) + spread_floors(6, 6) + spread_floors(7, 6) + spread_floors(8, 6)
FLOORS = NAMED + LARGER
STEPS = (("s", 1), ("s", -1), ("s", 2), ("t", 1), ("t", 2), ("t", 3))
# Words that come to nothing, by their tables.
NOTHING = (
    (("s", 1), ("t", 1)) * 6,
    (("t", 3), ("s", -1)) * 6,
    (("s", 3), ("t", 2), ("s", -3), ("t", 2)),
    (("t", 1), ("t", 1), ("t", 2)),
    (("s", 1), ("t", 1), ("s", 1), ("t", 1), ("s", 1), ("t", 1), ("t", 2)),
    (("s", 2), ("s", -2)),
)
WORDS = (
    (), (("s", 1),), (("s", -1),), (("t", 1),), (("t", 2),), (("t", 3),), (("s", 5), ("t", 1)), (("t", 1), ("s", 5)),
    (("s", 1), ("s", 2), ("t", 3), ("t", 3), ("s", -7)), (("t", 1), ("s", 1000), ("t", 3), ("s", -1000)),
    (("s", 2), ("t", 1), ("s", -3), ("t", 2), ("s", 4), ("t", 3), ("s", 1), ("t", 1), ("s", 1), ("t", 1), ("s", 9)),
)

LARGE_TABLES = (
    (514229, 317811, 832040, 514229), (1, 1000000, 0, 1), (-1000000, 1, -1, 0), (999999, 999998, 1000000, 999999),
    (-999999, 1000000, 999998, -999999), (0, -1, 1, 1000000), (1, 0, -1000000, 1),
)


class Sheared(unittest.TestCase):
    def test_by_hand(self):
        self.assertEqual(sheared(CORNERED, 1), ((1, 0, 2), (1, 2, 0)))
        self.assertEqual(sheared(ONE_ROW, 1), ((1, 2, 3, 0), (3, 0, 1, 2)))
        self.assertEqual(sheared(ONE_ROW, -1), ((1, 2, 3, 0), (1, 2, 3, 0)))
        self.assertEqual(sheared(FOUR, 1), ((1, 2, 0, 3), (1, 3, 2, 0)))
        self.assertEqual(sheared(ONE_COLUMN, 5), ONE_COLUMN)
        self.assertEqual(sheared(ONE_SQUARE, 7), ONE_SQUARE)

    def test_square_by_square(self):
        for floor in FLOORS + [UNLIKE_ROWS]:
            for k in (0, 1, -1, 2, -2, 3, -3, 5, 13, -29):
                told = sheared(floor, k)
                self.assertEqual(told, step_by_words(floor, "s", k))
                self.assertIs(look_floor(told), True)
                self.assertTrue(is_told_kind(told))

    def test_so_often_to_a_thousand_either_way(self):
        for floor in (CORNERED, FOUR, ROW_WITH_COLUMN, UNLIKE_ROWS):
            for k in (1000, -1000, 999, -997):
                self.assertEqual(sheared(floor, k), step_by_words(floor, "s", k))

    def test_no_shear(self):
        for floor in small_floors() + FLOORS:
            self.assertEqual(sheared(floor, 0), floor)

    def test_and_back(self):
        for floor in small_floors() + FLOORS + [UNLIKE_ROWS]:
            for k in (1, -1, 2, 7, 1000, -1000):
                self.assertEqual(sheared(sheared(floor, k), -k), floor)

    def test_one_and_then_another(self):
        for floor in FLOORS + [UNLIKE_ROWS]:
            for k, m in product((-1000, -2, 1, 3, 1000), repeat=2):
                self.assertEqual(sheared(sheared(floor, k), m), sheared(floor, k + m))


class Quartered(unittest.TestCase):
    def test_by_hand(self):
        self.assertEqual(quartered(ONE_SQUARE), ONE_SQUARE)
        self.assertEqual(quartered(ONE_ROW), ONE_COLUMN)
        self.assertEqual(quartered(ONE_COLUMN), ((3, 0, 1, 2), (0, 1, 2, 3)))
        self.assertEqual(quartered(((1, 2, 0), (1, 2, 0))), ((2, 0, 1), (1, 2, 0)))
        self.assertEqual(quartered(CORNERED), ((2, 1, 0), (1, 0, 2)))

    def test_square_by_square(self):
        for floor in small_floors() + FLOORS:
            told = quartered(floor)
            self.assertEqual(told, step_by_words(floor, "t", 1))
            self.assertIs(look_floor(told), True)
            self.assertTrue(is_told_kind(told))

    def test_four_times(self):
        for floor in small_floors() + FLOORS:
            self.assertEqual(quartered(quartered(quartered(quartered(floor)))), floor)

    def test_not_four_times_where_rows_and_columns_are_unlike(self):
        floor = ((1, 2, 0), (0, 2, 1))
        turned = [quartered(floor), quartered(quartered(floor)), quartered(quartered(quartered(floor)))]
        self.assertNotIn(floor, turned)


class LedBy(unittest.TestCase):
    def test_by_hand(self):
        self.assertEqual(led_by(ONE_ROW, (("s", -1), ("t", 1))), ((3, 0, 1, 2), (1, 2, 3, 0)))
        self.assertEqual(led_by(ONE_ROW, (("t", 1), ("s", -1))), ONE_COLUMN)
        self.assertEqual(led_by(ONE_ROW, (("t", 2),)), ((3, 0, 1, 2), (0, 1, 2, 3)))

    def test_no_steps(self):
        for floor in FLOORS:
            self.assertEqual(led_by(floor, ()), floor)

    def test_step_by_step_with_squares_numbered_as_they_were(self):
        for floor in FLOORS:
            for word in WORDS:
                if all(abs(k) < 100 for letter, k in word):
                    told = led_by(floor, word)
                    self.assertEqual(told, led_by_words(floor, word))
                    self.assertTrue(is_told_kind(told))
        for floor in (CORNERED, FOUR, ROW_WITH_COLUMN):
            for word in product(STEPS, repeat=3):
                self.assertEqual(led_by(floor, word), led_by_words(floor, word))

    def test_the_first_step_first(self):
        for floor in FLOORS:
            for k in (1, -2, 5):
                self.assertEqual(led_by(floor, (("s", k), ("t", 1))), quartered(sheared(floor, k)))
                self.assertEqual(led_by(floor, (("t", 1), ("s", k))), sheared(quartered(floor), k))

    def test_by_the_first_steps_and_then_by_the_others(self):
        for floor in FLOORS:
            for word in WORDS:
                for place in range(len(word) + 1):
                    self.assertEqual(led_by(led_by(floor, word[:place]), word[place:]), led_by(floor, word))

    def test_plain_or_not_and_back(self):
        for floor in FLOORS:
            for word in WORDS:
                self.assertEqual(led_by(floor, made_plain(word)), led_by(floor, word))
                self.assertEqual(led_by(led_by(floor, word), back_word(word)), floor)

    def test_called_anew_and_led(self):
        for floor in FLOORS:
            p = turning_of_rank(len(floor[0]), 31337)
            for word in WORDS:
                self.assertEqual(led_by(called_anew(floor, p), word), called_anew(led_by(floor, word), p))

    def test_nothing_handed_in_is_changed_and_the_same_when_asked_again(self):
        word = (("s", 2), ("t", 3), ("t", 1))
        self.assertEqual(led_by(FOUR, word), led_by(FOUR, word))
        self.assertEqual(led_by_table(FOUR, (2, 1, 1, 1)), led_by_table(FOUR, (2, 1, 1, 1)))
        self.assertEqual(FOUR, ((1, 2, 0, 3), (3, 2, 1, 0)))
        self.assertEqual(word, (("s", 2), ("t", 3), ("t", 1)))


class LedByTable(unittest.TestCase):
    def test_unmoved_it_is_the_form(self):
        for floor in small_floors() + FLOORS:
            self.assertEqual(led_by_table(floor, (1, 0, 0, 1)), form_by_words(floor))

    def test_the_form_of_the_floor_led_by_the_words_of_the_table(self):
        for floor in FLOORS:
            for word in WORDS:
                told = led_by_table(floor, table_of(word))
                self.assertEqual(told, form_by_words(led_by(floor, word)))
                self.assertTrue(is_told_kind(told))
        for floor in (CORNERED, FOUR, ROW_WITH_COLUMN):
            for word in product(STEPS, repeat=3):
                self.assertEqual(led_by_table(floor, table_of(word)), form_by_words(led_by_words(floor, word)))

    def test_the_same_for_the_floor_called_anew(self):
        for floor in (CORNERED, FOUR):
            for p in all_turnings(len(floor[0])):
                for table in ((1, 1, 0, 1), (0, -1, 1, 0), (2, 1, 1, 1), (-3, 2, 4, -3)):
                    self.assertEqual(led_by_table(called_anew(floor, p), table), led_by_table(floor, table))

    def test_one_table_and_then_another(self):
        tables = [(1, 1, 0, 1), (0, -1, 1, 0), (2, 1, 1, 1), (1, 0, -3, 1), (999999, 999998, 1000000, 999999)]
        for floor in FLOORS:
            for one, other in product(tables, repeat=2):
                led = led_by_table(led_by_table(floor, one), other)
                self.assertEqual(led, led_by_table(floor, times(other, one)))
            for table in tables:
                self.assertEqual(led_by_table(led_by_table(floor, table), undone(table)), form_of(floor))

    def test_large_tables(self):
        for table in LARGE_TABLES:
            word = word_by_other_division(table)
            self.assertEqual(table_of(word), table)
            for floor in FLOORS:
                self.assertEqual(led_by_table(floor, table), form_by_words(led_by(floor, word)))


class OneTable(unittest.TestCase):
    """Point [3]: words with the same table lead a floor to alike floors."""

    def test_words_that_come_to_nothing(self):
        for floor in small_floors() + FLOORS:
            for word in NOTHING:
                self.assertEqual(table_of(word), (1, 0, 0, 1))
                self.assertNotEqual(callings(floor, led_by(floor, word)), [])

    def test_words_with_such_put_between(self):
        for floor in FLOORS:
            for word in WORDS:
                for nothing in NOTHING:
                    place = len(word) // 2
                    other = word[:place] + nothing + word[place:]
                    self.assertEqual(table_of(other), table_of(word))
                    self.assertNotEqual(callings(led_by(floor, word), led_by(floor, other)), [])

    def test_the_word_of_the_table(self):
        for floor in FLOORS:
            for word in WORDS:
                other = word_of(table_of(word))
                self.assertNotEqual(callings(led_by(floor, word), led_by(floor, other)), [])
                back = put_together(word, back_word(other))
                self.assertEqual(form_of(led_by(floor, back)), form_of(floor))
            for table in LARGE_TABLES:
                by_one = led_by(floor, word_of(table))
                by_other = led_by(floor, word_by_other_division(table))
                self.assertNotEqual(callings(by_one, by_other), [])

    def test_words_of_one_table_by_all_small_words(self):
        by_table = {}
        for count in (0, 1, 2, 3, 4):
            for word in product(STEPS, repeat=count):
                by_table.setdefault(table_of(word), []).append(word)
        for floor in (FOUR, ROW_WITH_COLUMN):
            for words in by_table.values():
                self.assertEqual(len({form_of(led_by(floor, word)) for word in words}), 1)


if __name__ == "__main__":
    unittest.main()
