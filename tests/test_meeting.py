import unittest
from itertools import product

from samples import (
    CORNERED, FOUR, OF_120_ROWS, OF_36_ROWS, OF_96_ROWS, ONE_COLUMN, ONE_ROW, ONE_SQUARE, ROW_WITH_COLUMN,
    TWENTY_SQUARES, TWO_BY_TWO, all_led, all_turnings, form_by_words, is_called, is_told_kind, is_word, led_by_words,
    small_floors, spread_floors, turning_of_rank,
)
from shearfloor.anew import called_anew, form_of
from shearfloor.charts import chart_holds, chart_of
from shearfloor.errors import TooMany
from shearfloor.leading import led_by
from shearfloor.meeting import leads_to, meet

SMALL_FORMS = sorted({form_by_words(floor) for floor in small_floors()})
NAMED = [ONE_SQUARE, ONE_ROW, ONE_COLUMN, CORNERED, FOUR, ROW_WITH_COLUMN, TWO_BY_TWO, OF_36_ROWS]
LARGER = [floor for floor in spread_floors(5, 8) + spread_floors(6, 8) if len(all_led(floor)) <= 60]
WORDS = (
    (), (("s", 1),), (("t", 1),), (("s", -3), ("t", 3)), (("t", 1), ("s", 2), ("t", 2), ("s", 1)),
    (("s", 1000), ("t", 1), ("s", -999), ("t", 3), ("s", 7)), (("s", 1), ("s", 1), ("t", 3), ("t", 3)),
)


class Meet(unittest.TestCase):
    def assert_led(self, one, other):
        told = meet(one, other)
        self.assertTrue(is_told_kind(told))
        self.assertIs(type(told), tuple)
        self.assertEqual((len(told), told[0]), (3, "led"))
        word = told[1]
        p = told[2]
        self.assertTrue(is_word(word))
        self.assertTrue(all(abs(k) <= 9999 for letter, k in word))
        self.assertIs(type(p), tuple)
        self.assertEqual(sorted(p), list(range(len(one[0]))))
        self.assertTrue(is_called(led_by_words(one, word), p, other))
        self.assertIs(leads_to(one, other, word, p), True)

    def assert_apart(self, one, other):
        told = meet(one, other)
        self.assertTrue(is_told_kind(told))
        self.assertEqual(told, ("apart", chart_of(one)))
        self.assertIs(chart_holds(one, told[1]), True)
        self.assertNotIn(form_by_words(other), [row[0] for row in told[1]])

    def test_a_floor_and_itself(self):
        for floor in SMALL_FORMS + NAMED + LARGER:
            self.assert_led(floor, floor)

    def test_called_anew(self):
        for floor in (CORNERED, FOUR, ONE_ROW, TWO_BY_TWO):
            for p in all_turnings(len(floor[0])):
                self.assert_led(floor, called_anew(floor, p))
                self.assert_led(called_anew(floor, p), floor)

    def test_led_by_words_and_called_anew(self):
        for floor in NAMED + LARGER:
            for number, word in enumerate(WORDS):
                other = called_anew(led_by(floor, word), turning_of_rank(len(floor[0]), 17 * number + 3))
                self.assert_led(floor, other)
                self.assert_led(other, floor)

    def test_to_each_row_of_the_chart(self):
        for floor in (ROW_WITH_COLUMN, OF_36_ROWS):
            for row in chart_of(floor):
                self.assert_led(floor, row[0])

    def test_of_unlike_counts(self):
        for one, other in product(NAMED, repeat=2):
            if len(one[0]) != len(other[0]):
                self.assert_apart(one, other)
        self.assert_apart(CORNERED, TWENTY_SQUARES)

    def test_apart_of_one_count(self):
        self.assert_apart(ONE_ROW, TWO_BY_TWO)
        self.assert_apart(TWO_BY_TWO, ONE_ROW)
        self.assert_apart(FOUR, ONE_ROW)
        self.assert_apart(CORNERED, ((1, 2, 0), (1, 2, 0)))
        self.assert_apart(((1, 2, 0), (0, 1, 2)), CORNERED)

    def test_all_small_pairs(self):
        led = {form: all_led(form) for form in SMALL_FORMS}
        for one, other in product(SMALL_FORMS, repeat=2):
            if other in led[one]:
                self.assert_led(one, other)
            else:
                self.assert_apart(one, other)

    def test_larger_pairs(self):
        for one, other in product(LARGER, repeat=2):
            if form_by_words(other) in all_led(one):
                self.assert_led(one, other)
            else:
                self.assert_apart(one, other)

    def test_the_second_ones_chart_may_be_larger(self):
        for other in (OF_96_ROWS, OF_120_ROWS):
            self.assert_apart(OF_36_ROWS, other)
            self.assertEqual(meet(ONE_SQUARE, other, 1), ("apart", ((ONE_SQUARE, (), 0, 0),)))

    def test_the_same_when_asked_again(self):
        other = called_anew(led_by(FOUR, WORDS[4]), (2, 0, 3, 1))
        first = meet(FOUR, other)
        meet(CORNERED, ONE_ROW)
        self.assertEqual(meet(FOUR, other), first)
        self.assertEqual(meet(FOUR, ONE_ROW), meet(FOUR, ONE_ROW))
        self.assertEqual(FOUR, ((1, 2, 0, 3), (3, 2, 1, 0)))


class Refused(unittest.TestCase):
    def assert_refused(self, one, other, most):
        with self.assertRaises(TooMany) as taken:
            meet(one, other, most)
        self.assertEqual(taken.exception.most, most)

    def test_by_the_first_ones_chart_whatever_comes(self):
        for one in NAMED + LARGER:
            count = len(all_led(one))
            others = (one, called_anew(one, turning_of_rank(len(one[0]), 5)), led_by(one, WORDS[3]), ONE_SQUARE)
            for other in others:
                self.assertIn(meet(one, other, count)[0], ("led", "apart"))
                if count > 1:
                    self.assert_refused(one, other, count - 1)
                    self.assert_refused(one, other, 1)

    def test_with_most_left_out_it_is_60(self):
        for one in (OF_96_ROWS, OF_120_ROWS):
            for other in (one, form_of(one), led_by(one, WORDS[1]), ONE_SQUARE, CORNERED, TWENTY_SQUARES):
                with self.assertRaises(TooMany) as taken:
                    meet(one, other)
                self.assertEqual(taken.exception.most, 60)
                self.assert_refused(one, other, 60)
        self.assertEqual(meet.__defaults__, (60,))


class LeadsTo(unittest.TestCase):
    def test_by_hand(self):
        self.assertIs(leads_to(ONE_ROW, ONE_COLUMN, (("t", 1),), (0, 1, 2, 3)), True)
        self.assertIs(leads_to(ONE_ROW, ONE_COLUMN, (("t", 1),), (1, 2, 3, 0)), True)
        self.assertIs(leads_to(ONE_ROW, ONE_COLUMN, (("t", 1),), (1, 0, 2, 3)), False)
        self.assertIs(leads_to(ONE_ROW, ONE_COLUMN, (), (0, 1, 2, 3)), False)
        self.assertIs(leads_to(ONE_ROW, ONE_COLUMN, (("t", 3),), (0, 1, 2, 3)), False)
        self.assertIs(leads_to(ONE_ROW, ONE_COLUMN, (("t", 3),), (0, 3, 2, 1)), True)
        self.assertIs(leads_to(CORNERED, ((0, 2, 1), (1, 0, 2)), (), (1, 2, 0)), True)
        self.assertIs(leads_to(CORNERED, ((0, 2, 1), (1, 0, 2)), (), (2, 0, 1)), False)
        self.assertIs(leads_to(ONE_SQUARE, ONE_SQUARE, (("s", -1000), ("t", 2)), (0,)), True)

    def test_all_turnings(self):
        for floor in (CORNERED, FOUR, ONE_ROW):
            others = [floor, form_by_words(floor), led_by_words(floor, (("s", 1),)), led_by_words(floor, (("t", 1),))]
            for other, word in product(others, (WORDS[0], WORDS[1], WORDS[2], WORDS[4], WORDS[6])):
                led = led_by_words(floor, word)
                for p in all_turnings(len(floor[0])):
                    self.assertIs(leads_to(floor, other, word, p), is_called(led, p, other))

    def test_led_first_and_called_anew_then(self):
        for floor in LARGER:
            for number, word in enumerate(WORDS):
                p = turning_of_rank(len(floor[0]), 29 * number + 1)
                self.assertIs(leads_to(floor, called_anew(led_by(floor, word), p), word, p), True)

    def test_turnings_of_other_counts(self):
        for floor in (ONE_SQUARE, CORNERED, FOUR, ROW_WITH_COLUMN):
            for count in range(1, 21):
                p = tuple(range(count))
                self.assertIs(leads_to(floor, floor, (), p), count == len(floor[0]))
                self.assertIs(leads_to(floor, led_by(floor, WORDS[4]), WORDS[4], p), count == len(floor[0]))
                self.assertIs(leads_to(floor, floor, (("t", 1),), p), floor == ONE_SQUARE and count == 1)

    def test_floors_of_unlike_counts(self):
        for one, other in product(NAMED, repeat=2):
            if len(one[0]) != len(other[0]):
                for word in WORDS:
                    for count in (len(one[0]), len(other[0]), 7):
                        self.assertIs(leads_to(one, other, word, tuple(range(count))), False)

    def test_the_same_when_asked_again(self):
        p = (1, 0, 3, 2)
        other = called_anew(led_by(FOUR, WORDS[4]), p)
        self.assertEqual([leads_to(FOUR, other, WORDS[4], p) for k in range(3)], [True] * 3)


class OneOfBoth(unittest.TestCase):
    """Point [3]: one is told, a word and a renumbering or a chart without the other, and never both."""

    def test_never_both(self):
        charts = {form: chart_of(form) for form in SMALL_FORMS}
        for one, other in product(SMALL_FORMS, repeat=2):
            in_chart = other in [row[0] for row in charts[one]]
            self.assertEqual(meet(one, other)[0], "led" if in_chart else "apart")

    def test_from_either_side_the_same(self):
        for one, other in product(NAMED + LARGER, repeat=2):
            self.assertEqual(meet(one, other)[0], meet(other, one)[0])

    def test_apart_stays_apart_when_led(self):
        for word in WORDS:
            self.assertEqual(meet(ONE_ROW, led_by(TWO_BY_TWO, word))[0], "apart")
            self.assertEqual(meet(led_by(FOUR, word), ONE_ROW)[0], "apart")


if __name__ == "__main__":
    unittest.main()
