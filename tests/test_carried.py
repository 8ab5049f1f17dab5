import unittest
from itertools import product

from samples import (
    CORNERED, FOUR, OF_36_ROWS, ONE_COLUMN, ONE_ROW, ONE_SQUARE, ROW_WITH_COLUMN, STAIRS, TWO_BY_TWO, UNLIKE_ROWS,
    closed_rides, closed_seams, crossed_by_words, is_closed_by_words, is_told_kind, led_by_words, rim_by_words,
    small_floors, spread_floors, spread_numbers, sum_of_rims, walked_by_words,
)
from shearfloor.borders import border_or_ride
from shearfloor.carried import ride_carried, seam_carried
from shearfloor.dividing import word_of
from shearfloor.leading import led_by
from shearfloor.seams import crossed, is_closed
from shearfloor.words import back_word

NAMED = [ONE_SQUARE, ONE_ROW, ONE_COLUMN, CORNERED, FOUR, ROW_WITH_COLUMN, TWO_BY_TWO, STAIRS, UNLIKE_ROWS, OF_36_ROWS]
LARGER = spread_floors(5, 3) + spread_floors(6, 3) + spread_floors(7, 3) + spread_floors(8, 3)
FLOORS = NAMED + LARGER
SINGLES = ((("s", 1),), (("s", -1),), (("t", 1),))
STEPS = (("s", 1), ("s", -1), ("s", 2), ("s", -3), ("t", 1), ("t", 2), ("t", 3))
SHORT = [word for count in (0, 1, 2) for word in product(STEPS, repeat=count)]
LONGER = list(product(STEPS, repeat=4))[::211] + list(product(STEPS, repeat=3))[::37]
TOLD = [
    word_of(table)
    for table in (
        (1, 1000, 0, 1), (-1, 999, 0, -1), (610, 377, 987, 610), (1, 0, -1000, 1), (-13, 30, -10, 23),
        (999, 998, 1000, 999), (7, 3, 2, 1), (0, -1, 1, 1000),
    )
]
PARTS = [word[:3] for word in TOLD] + [word[2:] for word in TOLD]
WORDS = SHORT + LONGER + TOLD + PARTS
FEWER = SHORT[::3] + LONGER[::4] + TOLD
RIDES = ("", "r", "l", "u", "d", "rlud", "uudd", "ruldruuldrrlddu" * 4)


def single_words(word):
    """The word as a list of single steps."""
    singles = []
    for letter, k in word:
        singles += [(letter, 1 if k > 0 else -1)] * abs(k)
    return singles


def put(sides, side, number):
    sides[side] = sides.get(side, 0) + number


def over_by_words(floor, step, seam):
    """A seam carried over a single step, side by side as the document tells it; the floor is that ahead."""
    right, up = floor
    count = len(right)
    sides = {}
    for s in range(count):
        lower, left = seam[s], seam[count + s]
        if step == ("s", 1):
            beside = right.index(s)
            put(sides, ("lower", s), lower)
            put(sides, ("left", beside), left)
            put(sides, ("lower", beside), -left)
        elif step == ("s", -1):
            put(sides, ("lower", s), lower)
            put(sides, ("left", right[s]), left)
            put(sides, ("lower", s), left)
        else:
            put(sides, ("left", s), -lower)
            put(sides, ("lower", up[s]), left)
    return tuple(sides[kind, s] for kind in ("lower", "left") for s in range(count))


def seam_by_words(floor, word, seam):
    singles = single_words(word)
    floors = [floor]
    for step in singles:
        floors.append(led_by_words(floors[-1], (step,)))
    for ahead, step in reversed(list(zip(floors, singles))):
        seam = over_by_words(ahead, step, seam)
    return seam


def ride_by_words(word, steps):
    instead = {
        ("s", 1): {"r": "r", "l": "l", "u": "lu", "d": "dr"},
        ("s", -1): {"r": "r", "l": "l", "u": "ru", "d": "dl"},
        ("t", 1): {"r": "d", "u": "r", "l": "u", "d": "l"},
    }
    for step in reversed(single_words(word)):
        steps = "".join(instead[step][sign] for sign in steps)
    return steps


def seams_of(floor):
    count = 2 * len(floor[0])
    return [tuple(spread_numbers(count, bound, rank)) for bound, rank in ((1, 0), (9, 1), (1000, 2))]


class SeamCarried(unittest.TestCase):
    def test_by_hand(self):
        # Lower sides 1, 2 and 3, left sides 10, 20 and 30.
        seam = (1, 2, 3, 10, 20, 30)
        self.assertEqual(seam_carried(CORNERED, (), seam), seam)
        self.assertEqual(seam_carried(CORNERED, (("s", 1),), seam), (1 - 20, 2 - 10, 3 - 30, 20, 10, 30))
        self.assertEqual(seam_carried(CORNERED, (("s", -1),), seam), (1 + 10, 2 + 20, 3 + 30, 20, 10, 30))
        self.assertEqual(seam_carried(CORNERED, (("t", 1),), seam), (30, 20, 10, -1, -2, -3))
        self.assertEqual(seam_carried(ONE_SQUARE, (("s", 5),), (1, 10)), (1 - 50, 10))
        self.assertEqual(seam_carried(ONE_SQUARE, (("t", 2),), (1, 10)), (-1, -10))
        self.assertEqual(seam_carried(ONE_SQUARE, (("t", 1), ("s", 1)), (1, 10)), (10, 9))
        self.assertEqual(seam_carried(ONE_SQUARE, (("s", 1), ("t", 1)), (1, 10)), (11, -1))

    def test_over_no_step(self):
        for floor in FLOORS:
            for seam in seams_of(floor):
                self.assertEqual(seam_carried(floor, (), seam), seam)

    def test_over_single_steps(self):
        for floor in FLOORS + small_floors()[::3]:
            for word in SINGLES:
                for seam in seams_of(floor):
                    told = seam_carried(floor, word, seam)
                    self.assertEqual(told, over_by_words(floor, word[0], seam))
                    self.assertTrue(is_told_kind(told))
                    self.assertIs(type(told), tuple)

    def test_over_more_shears_and_quarter_turns(self):
        for floor in FLOORS:
            for seam in seams_of(floor):
                for letter, k in (("s", 2), ("s", 3), ("s", -2), ("s", -3), ("t", 2), ("t", 3), ("s", 17), ("s", -29)):
                    told = seam_carried(floor, ((letter, k),), seam)
                    self.assertEqual(told, seam_by_words(floor, ((letter, k),), seam))
                    again = ((letter, 1 if k > 0 else -1),) * abs(k)
                    self.assertEqual(told, seam_carried(floor, again, seam))

    def test_over_words(self):
        for floor in FLOORS:
            seam = seams_of(floor)[2]
            for word in SHORT + LONGER:
                self.assertEqual(seam_carried(floor, word, seam), seam_by_words(floor, word, seam))

    def test_over_told_words_and_parts_of_these(self):
        for floor in (ONE_SQUARE, CORNERED, STAIRS):
            for word in TOLD[1:] + PARTS[4:12]:
                for seam in seams_of(floor)[:1]:
                    self.assertEqual(seam_carried(floor, word, seam), seam_by_words(floor, word, seam))

    def test_over_a_words_parts_one_behind_the_other(self):
        for floor in FLOORS:
            seam = seams_of(floor)[1]
            for word in LONGER + TOLD[2:]:
                for place in range(len(word) + 1):
                    later = seam_carried(led_by(floor, word[:place]), word[place:], seam)
                    self.assertEqual(seam_carried(floor, word[:place], later), seam_carried(floor, word, seam))

    def test_over_a_word_and_it_turned_back(self):
        for floor in FLOORS:
            for word in FEWER + PARTS:
                for seam in seams_of(floor)[1:]:
                    self.assertEqual(seam_carried(floor, word + back_word(word), seam), seam)

    def test_over_four_quarter_turns(self):
        for floor in FLOORS:
            for seam in seams_of(floor):
                for word in ((("t", 1),) * 4, (("t", 2), ("t", 2)), (("t", 3), ("t", 1))):
                    self.assertEqual(seam_carried(floor, word, seam), seam)

    def test_closed_ones_come_to_closed_ones(self):
        for floor in FLOORS:
            for word in FEWER:
                for seam in closed_seams(led_by_words(floor, word)):
                    carried = seam_carried(floor, word, seam)
                    self.assertTrue(is_closed_by_words(floor, carried))
                    self.assertIs(is_closed(floor, carried), True)

    def test_those_not_closed_stay_so(self):
        seen = 0
        for floor in FLOORS:
            for word in SINGLES + (LONGER[3],):
                led = led_by_words(floor, word)
                for seam in seams_of(floor):
                    told = is_closed_by_words(floor, seam_carried(floor, word, seam))
                    self.assertIs(told, is_closed_by_words(led, seam))
                    seen += not told
        self.assertGreater(seen, 10)

    def test_borders_come_to_borders(self):
        for floor in FLOORS:
            count = len(floor[0])
            for word in FEWER:
                led = led_by_words(floor, word)
                for seam in [rim_by_words(led, count - 1), sum_of_rims(led, spread_numbers(count, 250, 4))]:
                    told = border_or_ride(floor, seam_carried(floor, word, seam))
                    self.assertEqual(told[0], "border")

    def test_no_border_comes_to_one_that_is_none(self):
        for floor in FLOORS:
            for word in FEWER[::2]:
                led = led_by_words(floor, word)
                for seam in closed_seams(led):
                    told = border_or_ride(floor, seam_carried(floor, word, seam))
                    self.assertEqual(told[0], border_or_ride(led, seam)[0])

    def test_the_same_when_asked_again(self):
        seam = seams_of(STAIRS)[2]
        first = seam_carried(STAIRS, LONGER[5], seam)
        seam_carried(FOUR, LONGER[2], seams_of(FOUR)[1])
        self.assertEqual(seam_carried(STAIRS, LONGER[5], seam), first)


class RideCarried(unittest.TestCase):
    def test_by_hand(self):
        self.assertEqual(ride_carried((), "rlud"), "rlud")
        self.assertEqual(ride_carried((("s", 1),), "rlud"), "rlludr")
        self.assertEqual(ride_carried((("s", -1),), "rlud"), "rlrudl")
        self.assertEqual(ride_carried((("s", 3),), "ud"), "lllu" + "drrr")
        self.assertEqual(ride_carried((("s", -2),), "ud"), "rru" + "dll")
        self.assertEqual(ride_carried((("t", 1),), "rlud"), "durl")
        self.assertEqual(ride_carried((("t", 2),), "rlud"), "lrdu")
        self.assertEqual(ride_carried((("t", 3),), "rlud"), "udlr")
        self.assertEqual(ride_carried((("s", 1), ("t", 1)), "rlud"), "dr" + "lu" + "r" + "l")
        self.assertEqual(ride_carried((("t", 1), ("s", 1)), "rlud"), "d" + "u" + "ur" + "ld")

    def test_no_steps(self):
        for word in WORDS:
            self.assertEqual(ride_carried(word, ""), "")

    def test_over_words(self):
        for word in SHORT + LONGER:
            for steps in RIDES:
                told = ride_carried(word, steps)
                self.assertEqual(told, ride_by_words(word, steps))
                self.assertIs(type(told), str)

    def test_over_told_words_and_parts_of_these(self):
        for word in TOLD + PARTS:
            for steps in RIDES[:6]:
                self.assertEqual(ride_carried(word, steps), ride_by_words(word, steps))

    def test_over_a_words_parts_one_behind_the_other(self):
        for word in LONGER + TOLD:
            for place in range(len(word) + 1):
                later = ride_carried(word[place:], "rlud")
                self.assertEqual(ride_carried(word[:place], later), ride_carried(word, "rlud"))

    def test_to_the_square_to_which_it_led(self):
        for floor in FLOORS:
            for word in SINGLES + tuple(LONGER[::3]):
                led = led_by_words(floor, word)
                for steps in RIDES:
                    for s in range(len(floor[0])):
                        carried = ride_carried(word, steps)
                        self.assertEqual(
                            walked_by_words(floor, s, carried)[-1], walked_by_words(led, s, steps)[-1]
                        )

    def test_closed_ones_come_to_closed_ones(self):
        for floor in FLOORS:
            for word in FEWER:
                for steps in closed_rides(led_by_words(floor, word))[::2]:
                    self.assertEqual(walked_by_words(floor, 0, ride_carried(word, steps))[-1], 0)

    def test_the_same_when_asked_again(self):
        first = ride_carried(LONGER[5], "rlud")
        ride_carried(LONGER[2], "uu")
        self.assertEqual(ride_carried(LONGER[5], "rlud"), first)


class CrossedAsOften(unittest.TestCase):
    """Points [3] and [30]: a closed ride crosses a closed seam as often as when both are carried."""

    def test_closed_rides_and_closed_seams(self):
        crossings = []
        for floor in FLOORS:
            for word in SHORT[::4] + LONGER[::3] + TOLD[4:7]:
                led = led_by_words(floor, word)
                rides = [(steps, ride_carried(word, steps)) for steps in closed_rides(led)]
                for seam in closed_seams(led)[1:]:
                    back = seam_carried(floor, word, seam)
                    for steps, carried in rides:
                        crossings.append(crossed_by_words(led, 0, steps, seam))
                        self.assertEqual(crossed(floor, 0, carried, back), crossings[-1])
        self.assertGreater(len(set(crossings)), 10)

    def test_from_each_square(self):
        for floor in (CORNERED, FOUR, STAIRS):
            for word in SINGLES + tuple(LONGER[:4]):
                led = led_by_words(floor, word)
                for s, step in product(range(len(floor[0])), "rlud"):
                    steps = step
                    while walked_by_words(led, s, steps)[-1] != s:
                        steps += step
                    for seam in closed_seams(led):
                        back = seam_carried(floor, word, seam)
                        told = crossed_by_words(floor, s, ride_carried(word, steps), back)
                        self.assertEqual(told, crossed_by_words(led, s, steps, seam))


if __name__ == "__main__":
    unittest.main()
