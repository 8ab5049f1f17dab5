import unittest

from samples import (
    CORNERED, FOUR, LONG_ROW, ONE_SQUARE, TWENTY_SQUARES, TWO_BY_TWO, all_floors, all_turnings, is_called,
    is_told_kind, numbered_by_words, small_floors,
)
from shearfloor.anew import called_anew, callings, form_of, numbered_from
from shearfloor.floors import look_floor
from shearfloor.turnings import followed, turned_back

RING_OF_FOUR = ((1, 2, 3, 0), (1, 2, 3, 0))


class CalledAnew(unittest.TestCase):
    def test_by_hand(self):
        self.assertEqual(called_anew(CORNERED, (1, 2, 0)), ((0, 2, 1), (1, 0, 2)))
        self.assertEqual(called_anew(CORNERED, (2, 0, 1)), ((2, 1, 0), (0, 2, 1)))
        self.assertEqual(called_anew(ONE_SQUARE, (0,)), ONE_SQUARE)

    def test_square_by_square(self):
        for floor in small_floors():
            for p in all_turnings(len(floor[0])):
                told = called_anew(floor, p)
                self.assertTrue(is_called(floor, p, told))
                self.assertIs(look_floor(told), True)

    def test_twenty_squares(self):
        told = called_anew(TWENTY_SQUARES, LONG_ROW)
        self.assertTrue(is_called(TWENTY_SQUARES, LONG_ROW, told))

    def test_one_and_then_another(self):
        for floor in (CORNERED, ((1, 2, 0), (0, 2, 1)), ((1, 2, 0), (1, 2, 0))):
            for p in all_turnings(3):
                for q in all_turnings(3):
                    by_both = called_anew(floor, followed(p, q))
                    self.assertEqual(called_anew(called_anew(floor, p), q), by_both)

    def test_and_back(self):
        for p in all_turnings(4):
            self.assertEqual(called_anew(called_anew(FOUR, p), turned_back(p)), FOUR)
        self.assertEqual(called_anew(FOUR, (0, 1, 2, 3)), FOUR)


class Callings(unittest.TestCase):
    def assert_all_told(self, one, other):
        turnings = all_turnings(len(one[0])) if len(one[0]) == len(other[0]) else []
        self.assertEqual(callings(one, other), [p for p in turnings if is_called(one, p, other)])

    def test_by_hand(self):
        self.assertEqual(callings(ONE_SQUARE, ONE_SQUARE), [(0,)])
        self.assertEqual(callings(CORNERED, CORNERED), [(0, 1, 2)])
        self.assertEqual(callings(CORNERED, ((0, 2, 1), (1, 0, 2))), [(1, 2, 0)])
        self.assertEqual(
            callings(RING_OF_FOUR, RING_OF_FOUR), [(0, 1, 2, 3), (1, 2, 3, 0), (2, 3, 0, 1), (3, 0, 1, 2)],
        )
        self.assertEqual(
            callings(TWO_BY_TWO, TWO_BY_TWO), [(0, 1, 2, 3), (1, 0, 3, 2), (2, 3, 0, 1), (3, 2, 1, 0)],
        )

    def test_all_of_them_of_all_small_pairs(self):
        floors = [floor for count in (1, 2, 3) for floor in all_floors(count)]
        for one in floors:
            for other in floors:
                self.assert_all_told(one, other)

    def test_all_of_them_of_four_squares(self):
        for one in all_floors(4)[::19] + [RING_OF_FOUR, TWO_BY_TWO]:
            for p in all_turnings(4):
                self.assert_all_told(one, called_anew(one, p))
            for other in all_floors(4)[::23]:
                self.assert_all_told(one, other)

    def test_none_where_they_arent_alike(self):
        self.assertEqual(callings(((1, 0), (0, 1)), ((0, 1), (1, 0))), [])
        self.assertEqual(callings(RING_OF_FOUR, TWO_BY_TWO), [])
        self.assertEqual(callings(ONE_SQUARE, ((1, 0), (1, 0))), [])
        self.assertEqual(callings(((1, 0), (1, 0)), ONE_SQUARE), [])
        self.assertEqual(callings(TWO_BY_TWO, TWENTY_SQUARES), [])

    def test_as_many_as_to_itself(self):
        for floor in small_floors():
            to_itself = len(callings(floor, floor))
            self.assertEqual(len(floor[0]) % to_itself, 0)
            self.assertEqual(len(callings(floor, form_of(floor))), to_itself)

    def test_twenty_squares(self):
        ring = (LONG_ROW, LONG_ROW)
        told = callings(ring, ring)
        self.assertEqual(len(told), 20)
        self.assertEqual(told, sorted(told))
        self.assertIn(LONG_ROW, told)

    def test_a_list_of_tuples_that_is_the_askers_own(self):
        told = callings(RING_OF_FOUR, RING_OF_FOUR)
        kept = list(told)
        self.assertIs(type(told), list)
        self.assertTrue(all(is_told_kind(p) and type(p) is tuple for p in told))
        told.reverse()
        told.append("x")
        self.assertEqual(callings(RING_OF_FOUR, RING_OF_FOUR), kept)
        self.assertIsNot(callings(FOUR, RING_OF_FOUR), callings(FOUR, RING_OF_FOUR))
        callings(FOUR, RING_OF_FOUR).append("x")
        self.assertEqual(callings(FOUR, RING_OF_FOUR), [])


class NumberedFrom(unittest.TestCase):
    def test_by_hand(self):
        self.assertEqual(numbered_from(ONE_SQUARE, 0), ONE_SQUARE)
        self.assertEqual(numbered_from(FOUR, 0), ((1, 3, 2, 0), (2, 3, 0, 1)))
        self.assertEqual(numbered_from(CORNERED, 0), ((1, 0, 2), (2, 1, 0)))
        self.assertEqual(numbered_from(CORNERED, 1), ((1, 0, 2), (0, 2, 1)))
        self.assertEqual(numbered_from(CORNERED, 2), ((0, 2, 1), (1, 0, 2)))

    def test_from_each_square_of_all_small_floors(self):
        for floor in small_floors():
            for s in range(len(floor[0])):
                told = numbered_from(floor, s)
                self.assertEqual(told, numbered_by_words(floor, s))
                self.assertEqual(numbered_from(told, 0), told)
                self.assertNotEqual(callings(floor, told), [])

    def test_from_each_of_twenty_squares(self):
        for s in range(20):
            self.assertEqual(numbered_from(TWENTY_SQUARES, s), numbered_by_words(TWENTY_SQUARES, s))


class FormOf(unittest.TestCase):
    def test_by_hand(self):
        self.assertEqual(form_of(ONE_SQUARE), ONE_SQUARE)
        self.assertEqual(form_of(CORNERED), ((0, 2, 1), (1, 0, 2)))

    def test_the_first_of_those_numbered_from_each_square(self):
        for floor in small_floors() + [TWENTY_SQUARES]:
            numbered = [numbered_by_words(floor, s) for s in range(len(floor[0]))]
            self.assertEqual(form_of(floor), sorted(numbered)[0])
            self.assertTrue(is_told_kind(form_of(floor)))

    def test_the_same_called_anew_and_of_the_form(self):
        for floor in small_floors():
            form = form_of(floor)
            self.assertEqual(form_of(form), form)
            for p in all_turnings(len(floor[0])):
                self.assertEqual(form_of(called_anew(floor, p)), form)

    def test_the_same_just_where_alike(self):
        floors = [floor for count in (1, 2, 3) for floor in all_floors(count)]
        for one in floors:
            for other in floors:
                self.assertEqual(form_of(one) == form_of(other), len(callings(one, other)) > 0)

    def test_how_many_forms_there_are(self):
        # So many subgroups of these indexes, but for conjugates, has the free group of two makers.
        for count, forms in ((1, 1), (2, 3), (3, 7), (4, 26)):
            self.assertEqual(len({form_of(floor) for floor in all_floors(count)}), forms)

    def test_the_same_when_asked_again(self):
        self.assertEqual(form_of(FOUR), form_of(FOUR))
        self.assertEqual(FOUR, ((1, 2, 0, 3), (3, 2, 1, 0)))


if __name__ == "__main__":
    unittest.main()
