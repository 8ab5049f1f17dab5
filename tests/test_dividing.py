import unittest
from itertools import product
from math import gcd

from samples import is_plain_word, is_told_kind, table_by_words
from shearfloor.dividing import word_of
from shearfloor.errors import FloorError, NoTable
from shearfloor.tables import is_table, times, undone
from shearfloor.words import table_of

BOUND = 1000000
SHEARS = (0, 1, 2, 3, 7, 1000, BOUND, -1, -2, -3, -7, -1000, -BOUND)


def signed(a, b, c, d):
    """The table and those that come of it by putting numbers below 0 for above, or in other places."""
    tables = []
    for e, f, g, h in ((a, b, c, d), (d, b, c, a), (a, c, b, d), (d, c, b, a), (b, a, d, c), (c, d, a, b)):
        for signs in product((1, -1), repeat=4):
            table = tuple(number * sign for number, sign in zip((e, f, g, h), signs))
            if is_table(table):
                tables.append(table)
    return tables


def table_with(a, c):
    """A table whose first and third number are a and c, both above 0 and without a common divisor."""
    d = pow(a, -1, c)
    return (a, (a * d - 1) // c, c, d)


def row_of(first, second, often):
    """A row of numbers to the bound, each so often the one ahead and the one ahead of that."""
    numbers = [first, second]
    while numbers[-1] * often + numbers[-2] <= BOUND:
        numbers.append(numbers[-1] * often + numbers[-2])
    return numbers


class WordOf(unittest.TestCase):
    def assert_written(self, table, most=80):
        word = word_of(table)
        self.assertTrue(is_plain_word(word), (table, word))
        self.assertTrue(is_told_kind(word))
        self.assertEqual(table_of(word), table)
        self.assertEqual(table_by_words(word), table)
        if most is not None:
            self.assertLessEqual(len(word), most, table)

    def test_unmoved(self):
        self.assert_written((1, 0, 0, 1))

    def test_shears_alone_and_turned_by_half(self):
        for k in SHEARS:
            self.assert_written((1, k, 0, 1))
            self.assert_written((-1, k, 0, -1))

    def test_noughts_at_each_place(self):
        for k in SHEARS:
            for sign in (1, -1):
                self.assert_written((sign, k, 0, sign))
                self.assert_written((sign, 0, k, sign))
                self.assert_written((0, -sign, sign, k))
                self.assert_written((k, -sign, sign, 0))

    def test_all_tables_of_small_numbers(self):
        tables = [table for table in product(range(-8, 9), repeat=4) if is_table(table)]
        self.assertGreater(len(tables), 500)
        for table in tables:
            self.assert_written(table)

    def test_numbers_to_the_bound(self):
        for a in (BOUND, BOUND - 1, 999983, 707106, 618034, 500001, 1001, 3, 2, 1):
            for c in (BOUND, BOUND - 1, 999979, 866025, 381966, 333333, 999, 7, 2):
                if gcd(a, c) == 1:
                    for table in signed(*table_with(a, c)):
                        self.assertLessEqual(max(abs(number) for number in table), BOUND)
                        self.assert_written(table)

    def test_neighbours_at_the_bound(self):
        n = BOUND - 1
        for table in ((n, n - 1, n + 1, n), (n, n + 1, n - 1, n), (n + 1, n, 1, 1), (1, 1, n, n + 1)):
            self.assertTrue(is_table(table))
            for other in signed(*table):
                self.assert_written(other)

    def test_long_to_divide(self):
        for often in (1, 2, 3):
            for numbers in (row_of(0, 1, often), row_of(1, 1, often)):
                for a, b, c in zip(numbers, numbers[1:], numbers[2:]):
                    for table in signed(c, b, b, a) + signed(b, a, c, b):
                        self.assert_written(table)
                    if a > 1 and gcd(a, b) == 1:
                        for table in signed(*table_with(b, a)) + signed(*table_with(a, b)):
                            self.assert_written(table)
        self.assert_written((514229, 317811, 832040, 514229))
        self.assert_written((832040, -514229, 514229, -317811))

    def test_a_table_times_itself(self):
        tables = [(BOUND - 1, BOUND - 2, BOUND, BOUND - 1), (-BOUND, 1, -1, 0), (514229, 317811, 832040, 514229)]
        tables += [table_with(999983, 618034), undone(table_with(866025, 999979)), (1, BOUND, 0, 1), (-1, 7, 0, -1)]
        for table in tables:
            self.assertTrue(is_table(table))
            by_itself = times(table, table)
            self.assert_written(by_itself, None)
            self.assert_written(times(by_itself, by_itself), None)

    def test_tables_of_words(self):
        for k, m, n in product((-1000, -3, -1, 1, 2, 1000), repeat=3):
            for turns in (1, 2, 3):
                word = (("s", k), ("t", turns), ("s", m), ("t", 1), ("s", n), ("t", 3))
                self.assert_written(table_of(word), None)
        self.assert_written(table_of((("s", 1000), ("t", 1), ("s", -1000), ("t", 3)) * 3), None)

    def test_the_same_when_asked_again(self):
        table = table_with(618034, 381967)
        self.assertEqual(word_of(table), word_of(table))


class Refused(unittest.TestCase):
    def assert_refused(self, numbers):
        with self.assertRaises(NoTable) as taken:
            word_of(numbers)
        self.assertIsInstance(taken.exception, FloorError)

    def test_of_another_determinant(self):
        for numbers in (
            (0, 0, 0, 0), (1, 0, 0, -1), (0, 1, 1, 0), (1, 1, 1, 1), (2, 0, 0, 2), (1, 0, 0, 2), (1, 0, 0, 0),
            (1, 5, 0, -1), (0, 5, 0, 1), (2, 1, 1, 2), (3, 2, 2, 3), (BOUND, BOUND, BOUND, BOUND),
            (BOUND, BOUND - 1, BOUND - 1, BOUND), (0, 0, 0, 1), (0, 0, 1, 0), (5, 0, 0, 0),
            (832040, 514229, 514229, 317811),
        ):
            self.assert_refused(numbers)

    def test_all_small_ones(self):
        for a, b, c, d in product(range(-2, 3), repeat=4):
            if a * d - b * c != 1:
                self.assert_refused((a, b, c, d))


if __name__ == "__main__":
    unittest.main()
