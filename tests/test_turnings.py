import unittest
from itertools import product

from samples import LONG_ROW, all_turnings, is_told_kind
from shearfloor.turnings import followed, is_turning, often, rings_of, turned_back

SOME = (2, 0, 1, 4, 3, 5)


def small_turnings():
    return [turning for count in (1, 2, 3, 4, 5) for turning in all_turnings(count)]


class IsTurning(unittest.TestCase):
    def test_turnings(self):
        for turning in ((0,), (0, 1), (1, 0), SOME, tuple(range(20)), LONG_ROW):
            self.assertIs(is_turning(turning), True, turning)

    def test_the_empty_tuple_is_none(self):
        self.assertIs(is_turning(()), False)

    def test_one_number(self):
        self.assertIs(is_turning((0,)), True)
        self.assertIs(is_turning((1,)), False)
        self.assertIs(is_turning((-1,)), False)

    def test_a_number_twice(self):
        for thing in ((0, 0), (1, 1), (0, 1, 1), (2, 1, 2), tuple(range(19)) + (0,)):
            self.assertIs(is_turning(thing), False, thing)

    def test_a_number_below_0(self):
        for thing in ((-1, 0), (0, -1), (0, 1, -2), (-3, -2, -1), (-20,) + tuple(range(1, 20))):
            self.assertIs(is_turning(thing), False, thing)

    def test_a_number_as_great_as_their_count_or_greater(self):
        for thing in ((0, 2), (1, 2), (3, 0, 1), (0, 1, 1000000), tuple(range(1, 21))):
            self.assertIs(is_turning(thing), False, thing)

    def test_all_triples_of_small_numbers(self):
        turnings = all_turnings(3)
        for thing in product(range(-1, 4), repeat=3):
            self.assertIs(is_turning(thing), thing in turnings, thing)


class Followed(unittest.TestCase):
    def test_the_one_first_then_the_other(self):
        self.assertEqual(followed((1, 2, 0), (1, 0, 2)), (0, 2, 1))
        self.assertEqual(followed((1, 0, 2), (1, 2, 0)), (2, 1, 0))

    def test_each_number_of_all_pairs(self):
        for one in all_turnings(4):
            for other in all_turnings(4):
                told = followed(one, other)
                for k in range(4):
                    self.assertEqual(told[k], other[one[k]])

    def test_one_and_twenty_numbers(self):
        self.assertEqual(followed((0,), (0,)), (0,))
        self.assertEqual(followed(LONG_ROW, LONG_ROW), tuple(range(2, 20)) + (0, 1))


class TurnedBack(unittest.TestCase):
    def test_leads_back(self):
        self.assertEqual(turned_back((1, 2, 0)), (2, 0, 1))
        self.assertEqual(turned_back(SOME), (1, 2, 0, 4, 3, 5))
        self.assertEqual(turned_back((0,)), (0,))
        self.assertEqual(turned_back(LONG_ROW), (19,) + tuple(range(19)))

    def test_each_number_of_all(self):
        for turning in small_turnings():
            back = turned_back(turning)
            for k in range(len(turning)):
                self.assertEqual(back[turning[k]], k)


class Often(unittest.TestCase):
    def test_0_times(self):
        self.assertEqual(often(SOME, 0), (0, 1, 2, 3, 4, 5))
        self.assertEqual(often((0,), 0), (0,))

    def test_once_and_once_back(self):
        for turning in small_turnings():
            self.assertEqual(often(turning, 1), turning)
            self.assertEqual(often(turning, -1), turned_back(turning))

    def test_as_often_as_gone_one_by_one(self):
        for turning in small_turnings() + [LONG_ROW]:
            for k in (2, 3, 4, 7, 12):
                gone = list(range(len(turning)))
                for again in range(k):
                    gone = [turning[number] for number in gone]
                self.assertEqual(often(turning, k), tuple(gone))
                self.assertEqual(often(turning, -k), turned_back(tuple(gone)))

    def test_a_thousand_times_either_way(self):
        # 1,000 is 1 more than a multiple of 3 and a multiple of 2.
        self.assertEqual(often(SOME, 1000), (2, 0, 1, 3, 4, 5))
        self.assertEqual(often(SOME, -1000), (1, 2, 0, 3, 4, 5))
        seven = (1, 2, 3, 4, 5, 6, 0)
        self.assertEqual(often(seven, 1000), (6, 0, 1, 2, 3, 4, 5))
        self.assertEqual(often(seven, -1000), (1, 2, 3, 4, 5, 6, 0))
        self.assertEqual(often(LONG_ROW, 1000), tuple(range(20)))
        self.assertEqual(often(LONG_ROW, -999), LONG_ROW)


class RingsOf(unittest.TestCase):
    def test_rings_begin_at_their_least_number_and_are_sorted(self):
        self.assertEqual(rings_of(SOME), ((0, 2, 1), (3, 4), (5,)))
        self.assertEqual(rings_of((3, 4, 5, 0, 2, 1)), ((0, 3), (1, 4, 2, 5)))

    def test_a_number_led_to_itself_is_a_ring(self):
        self.assertEqual(rings_of((0,)), ((0,),))
        self.assertEqual(rings_of((0, 1, 2)), ((0,), (1,), (2,)))
        self.assertEqual(rings_of((2, 1, 0)), ((0, 2), (1,)))

    def test_one_ring_of_twenty(self):
        self.assertEqual(rings_of(LONG_ROW), (tuple(range(20)),))
        self.assertEqual(rings_of(turned_back(LONG_ROW)), ((0,) + tuple(reversed(range(1, 20))),))

    def test_all_small_ones(self):
        for turning in small_turnings():
            rings = rings_of(turning)
            self.assertEqual(rings, tuple(sorted(rings)))
            self.assertEqual(sorted(k for ring in rings for k in ring), list(range(len(turning))))
            for ring in rings:
                self.assertEqual(ring[0], min(ring))
                for place, number in enumerate(ring):
                    self.assertEqual(turning[number], ring[(place + 1) % len(ring)])


class Told(unittest.TestCase):
    def test_told_in_tuples_and_the_same_when_asked_again(self):
        first = [
            (followed(SOME, SOME), turned_back(SOME), often(SOME, 5), often(SOME, 0), rings_of(SOME)),
            (is_turning(SOME), is_turning((0, 0))),
        ]
        again = [
            (followed(SOME, SOME), turned_back(SOME), often(SOME, 5), often(SOME, 0), rings_of(SOME)),
            (is_turning(SOME), is_turning((0, 0))),
        ]
        self.assertEqual(first, again)
        self.assertTrue(all(is_told_kind(told) for told in first))
        self.assertEqual(SOME, (2, 0, 1, 4, 3, 5))


if __name__ == "__main__":
    unittest.main()
