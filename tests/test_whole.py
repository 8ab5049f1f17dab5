"""What the document promises over the whole program: its interface, and what is asked again or handed on."""

import importlib
import inspect
import unittest
from copy import deepcopy

from samples import (
    CORNERED, FOUR, OF_12_ROWS, OF_20_ROWS, OF_36_ROWS, OF_96_ROWS, ONE_COLUMN, ONE_ROW, ONE_SQUARE, ROW_WITH_COLUMN,
    STAIRS, TWENTY_SQUARES, TWO_BY_TWO, all_led, brings_back, closed_rides, closed_seams, form_by_words, is_told_kind,
    led_by_words, slopes_to, spread_floors, spread_numbers, sum_of_rims, table_by_words, walked_by_words,
)
from shearfloor.anew import called_anew, callings, form_of, numbered_from
from shearfloor.bands import bands_of
from shearfloor.borders import border_or_ride
from shearfloor.carried import ride_carried, seam_carried
from shearfloor.charts import chart_holds, chart_of
from shearfloor.corners import corners_of, holes_of, turns_of
from shearfloor.desk import Desk
from shearfloor.dividing import word_of
from shearfloor.errors import FloorError
from shearfloor.floors import look_floor
from shearfloor.floortexts import read_floor, show_floor
from shearfloor.groups import is_of_group, makers_of, written_by
from shearfloor.kinds import kind_at, kind_table, kinds_of
from shearfloor.leading import led_by, led_by_table
from shearfloor.meeting import leads_to, meet
from shearfloor.rides import ridden
from shearfloor.seams import crossed, is_closed, rim_of
from shearfloor.slopes import bands_along, gone_once, slope_table
from shearfloor.tables import times, undone
from shearfloor.turnings import followed, often, rings_of, turned_back
from shearfloor.words import back_word, made_plain, put_together, table_of

INTERFACE = {
    "turnings": ("is_turning(thing)", "followed(one, other)", "turned_back(turning)", "often(turning, k)",
                 "rings_of(turning)"),
    "floors": ("look_floor(floor)", "neighbour(floor, s, step)"),
    "floortexts": ("show_floor(floor)", "read_floor(text)"),
    "anew": ("called_anew(floor, p)", "numbered_from(floor, s)", "form_of(floor)", "callings(one, other)"),
    "tables": ("is_table(thing)", "times(one, other)", "undone(table)", "led_pair(table, pair)"),
    "words": ("table_of(word)", "made_plain(word)", "put_together(one, other)", "back_word(word)"),
    "dividing": ("word_of(table)",),
    "wordtexts": ("show_word(word)", "read_word(text)"),
    "leading": ("sheared(floor, k)", "quartered(floor)", "led_by(floor, word)", "led_by_table(floor, table)"),
    "corners": ("corners_of(floor)", "turns_of(floor)", "holes_of(floor)"),
    "bands": ("is_smooth(floor, ring)", "bands_of(floor)"),
    "charts": ("chart_of(floor, most=60)", "chart_holds(floor, chart)"),
    "meeting": ("meet(one, other, most=60)", "leads_to(one, other, word, p)"),
    "slopes": ("slope_table(slope)", "slope_steps(slope)", "gone_once(floor, slope)", "line_from(floor, slope, s)",
               "bands_along(floor, slope)"),
    "kinds": ("kinds_of(chart)", "kind_at(chart, slope)", "kind_table(chart, one, other)"),
    "groups": ("is_of_group(floor, table)", "makers_of(chart)", "written_by(chart, table)"),
    "rides": ("ridden(floor, s, steps)",),
    "seams": ("is_closed(floor, seam)", "rim_of(floor, s)", "crossed(floor, s, steps, seam)"),
    "borders": ("border_or_ride(floor, seam)",),
    "carried": ("seam_carried(floor, word, seam)", "ride_carried(word, steps)"),
}
WORD = (("s", 2), ("t", 1), ("s", -3), ("t", 3))
SEAM = (3, -1, 0, 2, 1, 7, -5, 0)
CHART = chart_of(FOUR)
# For each function of the interface things to be handed in, more than once.
ASKED = {
    "is_turning": (((1, 0, 2),), ((1, 1),)), "followed": (((1, 2, 0), (0, 2, 1)),), "turned_back": (((1, 2, 0),),),
    "often": (((1, 2, 0, 4, 3), -7),), "rings_of": (((1, 2, 0, 4, 3),),), "look_floor": ((FOUR,), (((0, 1), (0, 1)),)),
    "neighbour": ((FOUR, 1, "d"), (FOUR, 1, "l")), "show_floor": ((FOUR,),),
    "read_floor": (("right 1 0\nup 0 1",), ("right 1 0\nup 0",)), "called_anew": ((FOUR, (2, 3, 1, 0)),),
    "numbered_from": ((FOUR, 2),), "form_of": ((FOUR,), (STAIRS,)),
    "callings": ((TWO_BY_TWO, TWO_BY_TWO), (ONE_ROW, ONE_ROW), (FOUR, ONE_ROW), (FOUR, FOUR)),
    "is_table": (((2, 1, 1, 1),), ((2, 1, 1, 2),)), "times": (((2, 1, 1, 1), (1, 5, 0, 1)),),
    "undone": (((2, 1, 1, 1),),), "led_pair": (((2, 1, 1, 1), (-3, 4)),), "table_of": ((WORD,),),
    "made_plain": ((WORD + WORD,), (WORD + back_word(WORD),)), "put_together": ((WORD, WORD),), "back_word": ((WORD,),),
    "word_of": (((610, 377, 987, 610),), ((1, 1, 1, 1),)), "show_word": ((WORD,), ((),)),
    "read_word": (("s2 t1",), ("s2  t1",)), "sheared": ((FOUR, 5),), "quartered": ((FOUR,),), "led_by": ((FOUR, WORD),),
    "led_by_table": ((FOUR, (2, 1, 1, 1)),), "corners_of": ((FOUR,),), "turns_of": ((FOUR,),), "holes_of": ((FOUR,),),
    "is_smooth": ((FOUR, (0, 1, 2)), (ONE_ROW, (0, 1, 2, 3))), "bands_of": ((STAIRS,),),
    "chart_of": ((FOUR,), (FOUR, 4), (FOUR, 3)), "chart_holds": ((FOUR, CHART), (ONE_ROW, CHART)),
    "meet": ((FOUR, CHART[2][0]), (FOUR, ONE_ROW), (FOUR, FOUR, 3)),
    "leads_to": ((FOUR, FOUR, (), (0, 1, 2, 3)), (FOUR, FOUR, WORD, (0, 1, 2, 3))),
    "slope_table": (((-3, 2),), ((2, 2),)), "slope_steps": (((-3, 2),),), "gone_once": ((STAIRS, (-3, 2)),),
    "line_from": ((STAIRS, (-3, 2), 4),), "bands_along": ((STAIRS, (-3, 2)),), "kinds_of": ((CHART,),),
    "kind_at": ((CHART, (-3, 2)),),
    "kind_table": ((CHART, (-3, 2), (1, 0)), (CHART, (0, 1), (1, 0)), (CHART, (1, 1), (0, 1))),
    "is_of_group": ((FOUR, (1, 3, 0, 1)), (FOUR, (1, 1, 0, 1))), "makers_of": ((CHART,),),
    "written_by": ((CHART, (1, 3, 0, 1)), (CHART, (1, 1, 0, 1))), "ridden": ((STAIRS, 4, "ruuld"),),
    "is_closed": ((FOUR, SEAM), (FOUR, (0,) * 8)), "rim_of": ((FOUR, 3),), "crossed": ((FOUR, 1, "ruuld", SEAM),),
    "border_or_ride": ((FOUR, SEAM), (FOUR, (0,) * 8)), "seam_carried": ((FOUR, WORD, SEAM),),
    "ride_carried": ((WORD, "ruuld"),),
}
NAMED = [ONE_SQUARE, ONE_ROW, ONE_COLUMN, CORNERED, FOUR, ROW_WITH_COLUMN, TWO_BY_TWO, OF_12_ROWS, OF_20_ROWS]
LARGER = [floor for floor in spread_floors(5, 5) + spread_floors(6, 5) if len(all_led(floor)) <= 60]
FLOORS = NAMED + LARGER


def functions():
    """A dict of the interface's functions by name."""
    found = {}
    for module, rows in INTERFACE.items():
        for row in rows:
            name = row.partition("(")[0]
            found[name] = getattr(importlib.import_module("shearfloor." + module), name)
    return found


def told_by(function, given):
    """What the function tells, or the refusal's class and values."""
    try:
        return function(*given)
    except FloorError as refusal:
        return (type(refusal).__name__, sorted(vars(refusal).items()))


def spoil(thing):
    """Change a list that was told, and those in it."""
    if isinstance(thing, list):
        for part in thing:
            spoil(part)
        thing.append("spoiled")
        thing.reverse()


class Interface(unittest.TestCase):
    def test_functions_and_their_arguments(self):
        for module, rows in INTERFACE.items():
            for row in rows:
                name = row.partition("(")[0]
                function = getattr(importlib.import_module("shearfloor." + module), name)
                self.assertEqual(name + str(inspect.signature(function)), row)
                self.assertEqual(function.__module__, "shearfloor." + module)

    def test_the_desk(self):
        self.assertEqual(str(inspect.signature(Desk)), "()")
        self.assertEqual(str(inspect.signature(Desk().say)), "(row)")


class AskedAgain(unittest.TestCase):
    def test_each_function_is_asked(self):
        self.assertEqual(sorted(ASKED), sorted(functions()))

    def test_told_the_same_whatever_was_asked_between_and_done_to_what_was_told(self):
        asked = [(function, given) for name, function in functions().items() for given in ASKED[name]]
        handed_in = deepcopy([given for function, given in asked])
        first = []
        for function, given in asked:
            told = told_by(function, given)
            first.append(deepcopy(told))
            spoil(told)
        for _ in range(2):
            again = [told_by(function, given) for function, given in reversed(asked)]
            self.assertEqual(again[::-1], first)
            spoil(again)
        self.assertEqual([given for function, given in asked], handed_in)

    def test_lists_are_the_askers_own(self):
        one = callings(TWO_BY_TWO, TWO_BY_TWO)
        other = callings(TWO_BY_TWO, TWO_BY_TWO)
        self.assertIs(type(one), list)
        self.assertIsNot(one, other)
        one.clear()
        self.assertEqual(len(other), 4)
        nothing = callings(FOUR, ONE_ROW)
        nothing.append((0, 1, 2, 3))
        self.assertEqual(callings(FOUR, ONE_ROW), [])

    def test_all_else_is_tuples_texts_whole_numbers_truths_and_none(self):
        for name, function in functions().items():
            for given in ASKED[name]:
                try:
                    told = function(*given)
                except FloorError:
                    continue
                if name == "callings":
                    self.assertTrue(all(is_told_kind(p) for p in told))
                else:
                    self.assertTrue(is_told_kind(told), name)


class HandedOn(unittest.TestCase):
    """What a function told may be handed on, whatever its size."""

    def test_tables_and_words(self):
        table = (999999, 999998, 1000000, 999999)
        for _ in range(4):
            table = times(table, table)
        word = word_of(table)
        self.assertEqual(table_of(word), table)
        self.assertEqual(table_of(put_together(word, back_word(word))), (1, 0, 0, 1))
        self.assertEqual(table_by_words(made_plain(word + word)), times(table, table))
        for floor in (CORNERED, STAIRS, OF_12_ROWS):
            self.assertEqual(form_of(led_by(floor, word)), led_by_table(floor, table))
            self.assertEqual(led_by_table(led_by_table(floor, table), undone(table)), form_of(floor))
            self.assertIn(is_of_group(floor, table), (True, False))

    def test_tables_of_kinds(self):
        for floor in (CORNERED, OF_12_ROWS):
            chart = chart_of(floor)
            slopes = [(1000, 999), (-999, 1000), (997, 991), (-610, 987), (1, 0)]
            for one in slopes:
                for other in slopes:
                    table = kind_table(chart, one, other)
                    if table is not None:
                        self.assertIs(is_of_group(floor, times(table, times(table, table))), True)
                        self.assertEqual(table_of(word_of(table)), table)

    def test_charts_of_meetings_and_of_more_rows(self):
        chart = meet(OF_36_ROWS, ONE_SQUARE)[1]
        self.assertIs(chart_holds(OF_36_ROWS, chart), True)
        self.assertEqual(len(makers_of(chart)), 37)
        chart = chart_of(OF_96_ROWS, 96)
        self.assertIs(chart_holds(OF_96_ROWS, chart), True)
        self.assertEqual(sum(len(kind) for kind in kinds_of(chart)), 96)

    def test_long_rides_and_seams_of_great_numbers(self):
        word = word_of((987, 377, 610, 233))
        for floor in (CORNERED, STAIRS):
            led = led_by(floor, word)
            for steps in closed_rides(led)[3:7]:
                carried = ride_carried(word, steps)
                self.assertGreater(len(carried), 1000)
                squares = ridden(floor, 0, carried)
                self.assertEqual((squares[0], squares[-1], len(squares)), (0, 0, len(carried) + 1))
                for seam in closed_seams(led, 300)[-2:]:
                    back = seam_carried(floor, word, seam)
                    self.assertIs(is_closed(floor, back), True)
                    self.assertEqual(crossed(floor, 0, carried, back), crossed(led, 0, steps, seam))
                    self.assertEqual(border_or_ride(floor, back)[0], border_or_ride(led, seam)[0])

    def test_rides_told_of_seams(self):
        for floor in FLOORS + [STAIRS]:
            for seam in closed_seams(floor):
                kind, told = border_or_ride(floor, seam)
                if kind == "ride":
                    self.assertEqual(ridden(floor, 0, told)[-1], 0)
                    self.assertNotEqual(crossed(floor, 0, told, seam), 0)

    def test_turnings_and_floors(self):
        for floor in FLOORS + [STAIRS, TWENTY_SQUARES]:
            right = floor[0]
            turning = followed(often(right, 1000), turned_back(right))
            self.assertEqual(turning, often(right, 999))
            anew = called_anew(floor, often(right, -7))
            self.assertIs(look_floor(anew), True)
            self.assertEqual(read_floor(show_floor(anew)), anew)
            self.assertEqual(form_of(numbered_from(anew, len(right) - 1)), form_of(floor))
            self.assertIn(often(right, -7), callings(floor, anew))


class TheWhole(unittest.TestCase):
    """Point [3], each promise over several modules at once."""

    def test_alike_for_all_floors_to_which_words_lead(self):
        for floor in FLOORS:
            told = (len(floor[0]), turns_of(floor), holes_of(floor), len(callings(floor, floor)))
            for row in chart_of(floor):
                led = row[0]
                self.assertEqual((len(led[0]), turns_of(led), holes_of(led), len(callings(led, led))), told)
                self.assertEqual(len(corners_of(led)), len(told[1]))

    def test_words_of_one_table_lead_to_alike_floors(self):
        nothing = (("s", 1), ("t", 1)) * 6
        for floor in FLOORS + [STAIRS]:
            for word in (WORD, WORD + nothing, nothing[:6] + (("t", 2),) + WORD, word_of(table_of(WORD))):
                self.assertEqual(table_of(word), table_of(WORD))
                self.assertEqual(form_by_words(led_by_words(floor, word)), led_by_table(floor, table_of(WORD)))

    def test_a_word_or_a_chart_and_never_both(self):
        for one in FLOORS:
            for other in FLOORS:
                told = meet(one, other)
                in_chart = form_of(other) in [row[0] for row in chart_of(one)]
                self.assertEqual(told[0], "led" if in_chart else "apart")
                if in_chart:
                    self.assertIs(leads_to(one, other, told[1], told[2]), True)
                else:
                    self.assertIs(chart_holds(one, told[1]), True)

    def test_the_group_is_made_by_the_makers(self):
        for floor in NAMED:
            chart = chart_of(floor)
            for number in range(40):
                a, b = spread_numbers(2, 4, number)
                word = tuple((letter, k) for letter, k in (("s", a), ("t", 1 + number % 3), ("s", b), ("t", 1)) if k)
                table = table_by_words(word)
                pairs = written_by(chart, table)
                self.assertEqual(pairs is not None, brings_back(floor, table))
                self.assertEqual(pairs is not None, is_of_group(floor, table))

    def test_rows_along_slopes(self):
        for floor in FLOORS + [STAIRS]:
            for slope in slopes_to(3):
                led = led_by_table(floor, slope_table(slope))
                rings = sorted(len(ring) for ring in rings_of(gone_once(floor, slope)))
                self.assertEqual(rings, sorted(len(row) for row in rings_of(led[0])))
                bands = bands_along(floor, slope)
                self.assertEqual(sum(width * height for width, height in bands), len(floor[0]))
                self.assertEqual(bands, tuple(band[:2] for band in bands_of(led)))

    def test_slopes_of_one_kind_have_the_same_bands(self):
        for floor in FLOORS:
            chart = chart_of(floor)
            told = {}
            for slope in slopes_to(4):
                told.setdefault(kind_at(chart, slope), []).append(bands_along(floor, slope))
            self.assertLessEqual(set(told), set(range(len(kinds_of(chart)))))
            for bands in told.values():
                self.assertEqual(len(set(bands)), 1)

    def test_a_border_or_crossed_and_never_both(self):
        for floor in FLOORS + [STAIRS]:
            count = len(floor[0])
            for seam in closed_seams(floor) + [sum_of_rims(floor, spread_numbers(count, 90, 6)), rim_of(floor, 0)]:
                kind, told = border_or_ride(floor, seam)
                crossings = [crossed(floor, 0, steps, seam) for steps in closed_rides(floor)]
                if kind == "border":
                    self.assertEqual(sum_of_rims(floor, told), seam)
                    self.assertEqual(set(crossings), {0})
                else:
                    self.assertEqual(walked_by_words(floor, 0, told)[-1], 0)
                    self.assertNotEqual(crossed(floor, 0, told, seam), 0)


if __name__ == "__main__":
    unittest.main()
