import unittest
from itertools import product

from samples import is_told_kind
from shearfloor.tables import is_table, led_pair, times, undone

UNMOVED = (1, 0, 0, 1)
SMALL = [four for four in product(range(-2, 3), repeat=4) if four[0] * four[3] - four[1] * four[2] == 1]
GREAT = (1000000, 999999, 1, 1)
GREATER = (1000000, -1, 1, 0)
GREATEST = (-999999, 1000000, -1000000, 1000001)


class IsTable(unittest.TestCase):
    def test_tables(self):
        for table in (UNMOVED, (1, 5, 0, 1), (0, -1, 1, 0), (2, 1, 1, 1), (-1, 0, 0, -1), GREAT, GREATER, GREATEST):
            self.assertIs(is_table(table), True, table)

    def test_other_determinants(self):
        for four in ((0, 0, 0, 0), (1, 0, 0, -1), (0, 1, 1, 0), (2, 0, 0, 1), (1, 1, 1, 1), (1, 2, 3, 4)):
            self.assertIs(is_table(four), False, four)
        self.assertIs(is_table((1000000, 1000000, 1000000, 1000000)), False)
        self.assertIs(is_table((1000000, 999999, 1, 0)), False)

    def test_other_counts(self):
        for thing in ((), (1,), (1, 0), (1, 0, 0), (1, 0, 0, 1, 0), (1, 0, 0, 1, 1), (1, 0, 0, 1) * 5):
            self.assertIs(is_table(thing), False, thing)


class Times(unittest.TestCase):
    def test_by_hand(self):
        self.assertEqual(times((1, 2, 0, 1), (0, -1, 1, 0)), (2, -1, 1, 0))
        self.assertEqual(times((0, -1, 1, 0), (1, 2, 0, 1)), (0, -1, 1, 2))
        self.assertEqual(times((2, 3, 5, 8), (1, 4, 7, 29)), (23, 95, 61, 252))

    def test_the_other_leads_first(self):
        for one in SMALL:
            for other in SMALL:
                told = times(one, other)
                self.assertIs(is_table(told), True)
                for pair in ((1, 0), (0, 1), (3, -7)):
                    self.assertEqual(led_pair(told, pair), led_pair(one, led_pair(other, pair)))

    def test_great_numbers(self):
        self.assertEqual(times(GREAT, GREATER), (1000000999999, -1000000, 1000001, -1))
        self.assertEqual(times(GREATER, GREAT), (999999999999, 999998999999, 1000000, 999999))
        self.assertIs(is_table(times(GREATEST, GREATEST)), True)


class Undone(unittest.TestCase):
    def test_by_hand(self):
        self.assertEqual(undone((2, 3, 5, 8)), (8, -3, -5, 2))
        self.assertEqual(undone(UNMOVED), UNMOVED)
        self.assertEqual(undone(GREATEST), (1000001, -1000000, 1000000, -999999))

    def test_times_the_first_one(self):
        for table in SMALL + [GREAT, GREATER, GREATEST]:
            self.assertEqual(times(undone(table), table), UNMOVED)
            self.assertEqual(times(table, undone(table)), UNMOVED)


class LedPair(unittest.TestCase):
    def test_by_hand(self):
        self.assertEqual(led_pair((2, 3, 5, 8), (1, 0)), (2, 5))
        self.assertEqual(led_pair((2, 3, 5, 8), (0, 1)), (3, 8))
        self.assertEqual(led_pair((2, 3, 5, 8), (-4, 7)), (13, 36))
        self.assertEqual(led_pair((2, 3, 5, 8), (0, 0)), (0, 0))

    def test_great_numbers(self):
        self.assertEqual(led_pair(GREATEST, (1000, -1000)), (-1999999000, -2000001000))

    def test_and_back(self):
        for table in SMALL:
            self.assertEqual(led_pair(undone(table), led_pair(table, (5, -3))), (5, -3))


class Told(unittest.TestCase):
    def test_told_in_tuples_and_the_same_when_asked_again(self):
        first = (times(GREAT, GREATER), undone(GREAT), led_pair(GREAT, (1, 2)), is_table(GREAT))
        again = (times(GREAT, GREATER), undone(GREAT), led_pair(GREAT, (1, 2)), is_table(GREAT))
        self.assertEqual(first, again)
        self.assertTrue(is_told_kind(first))


if __name__ == "__main__":
    unittest.main()
