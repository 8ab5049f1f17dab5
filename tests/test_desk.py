import unittest
from itertools import product

from samples import (
    CORNERED, FOUR, OF_12_ROWS, OF_120_ROWS, OF_36_ROWS, OF_96_ROWS, ONE_COLUMN, ONE_ROW, ONE_SQUARE,
    ROW_WITH_COLUMN, STAIRS, TWENTY_SQUARES, TWO_BY_TWO, UNLIKE_ROWS, bands_by_words, form_by_words, led_by_words,
    spread_floors,
)
from shearfloor.charts import chart_of
from shearfloor.corners import holes_of, turns_of
from shearfloor.desk import Desk
from shearfloor.errors import FloorError, NoName, NoRow, NoSlope, NoText, TooMany
from shearfloor.kinds import kinds_of
from shearfloor.meeting import meet
from shearfloor.slopes import bands_along
from shearfloor.wordtexts import read_word, show_word

SMALL = [ONE_SQUARE, CORNERED, FOUR, ONE_ROW, ONE_COLUMN, TWO_BY_TWO, ROW_WITH_COLUMN, OF_12_ROWS, OF_36_ROWS]
SEVEN = spread_floors(7, 3)[0]
NINE = (tuple(range(1, 9)) + (0,), tuple(range(9)))
FLOORS = SMALL + [STAIRS, UNLIKE_ROWS, SEVEN]
WORDS = (".", "s1", "s-1", "t1", "t2", "t3", "s3 t1 s-2", "t1 t1 s1 s1", "s9999 t3 s-9999", "s1 t1 " * 20 + "s1")
# Rows that aren't of the desk's eight, whatever is kept.
NO_ROWS = (
    "", " ", "  ", "keep", "keep a", "keep a ", "keep  right 0 ; up 0", "keep  a right 0 ; up 0", "keep ",
    " keep a right 0 ; up 0", "Keep a right 0 ; up 0", "keeps a right 0 ; up 0", "kee a right 0 ; up 0",
    "lead", "lead a", "lead a ", "lead  a s1", "lead ", " lead a s1", "led a s1",
    "form", "form ", "form a ", "form  a", "form a a", " form a", "Form a", "forms a",
    "text", "text ", "text a ", "text  a", "text a a", " text a", "textt a",
    "holes", "holes ", "holes a ", "holes  a", "holes a 1", "hole a",
    "bands", "bands ", "bands a", "bands a ", "bands a 1", "bands a 1 ", "bands a 1 0 ", "bands a  1 0", "bands a 1  0",
    "bands  a 1 0", "bands a 1 0 0", " bands a 1 0", "band a 1 0",
    "chart", "chart ", "chart a ", "chart  a", "chart a a", "chart a 60", "charts a",
    "meet", "meet ", "meet a", "meet a ", "meet a  a", "meet  a a", "meet a a ", "meet a a a", "meets a a",
    "say a", "kept", "a", "a b c", "drop a", ".", "right 0 ; up 0",
)
NO_NAMES = ("A", "aB", "abcdefg", "a1", "1", "a-b", "a_b", ".", ";", "abcdefgh", "zzzzzzz", "a;", "-", "aaaaaaa")
NO_NUMBERS = (
    "1000", "-1000", "0001", "01", "00", "-0", "-00", "-01", "+1", "--1", "-", "1-", "a", "1.0", "0x1", "1_0", "1e1",
    "12a", ".5", "9999", "12345",
)


def written(floor):
    """A floor's text in a row."""
    return "right " + " ".join(map(str, floor[0])) + " ; up " + " ".join(map(str, floor[1]))


def desk_with(floors):
    desk = Desk()
    for name, floor in floors.items():
        desk.say("keep " + name + " " + written(floor))
    return desk


class Answers(unittest.TestCase):
    def test_keep_and_text(self):
        desk = Desk()
        self.assertEqual(desk.say("keep a right 1 0 2 ; up 2 1 0"), "kept")
        self.assertEqual(desk.say("text a"), "right 1 0 2 ; up 2 1 0")
        for floor in FLOORS + [NINE, TWENTY_SQUARES, OF_96_ROWS]:
            self.assertEqual(desk.say("keep b " + written(floor)), "kept")
            self.assertEqual(desk.say("text b"), written(floor))
            self.assertIs(type(desk.say("text b")), str)
        self.assertEqual(desk.say("text a"), "right 1 0 2 ; up 2 1 0")

    def test_names(self):
        names = ("a", "z", "ab", "abc", "zyxw", "floor", "abcdef", "zzzzzz", "keep", "text", "right", "up")
        desk = Desk()
        for count, name in enumerate(names):
            row = tuple(range(1, count + 1)) + (0,)
            self.assertEqual(desk.say("keep " + name + " " + written((row, row))), "kept")
        for count, name in enumerate(names):
            row = tuple(range(1, count + 1)) + (0,)
            self.assertEqual(desk.say("text " + name), written((row, row)))

    def test_all_letters(self):
        desk = Desk()
        for letter in "abcdefghijklmnopqrstuvwxyz":
            self.assertEqual(desk.say("keep " + letter + " right 0 ; up 0"), "kept")
            self.assertEqual(desk.say("text " + letter), "right 0 ; up 0")

    def test_keep_anew_by_a_name_that_kept_a_floor(self):
        desk = Desk()
        desk.say("keep a right 1 0 ; up 0 1")
        self.assertEqual(desk.say("keep a right 0 1 ; up 1 0"), "kept")
        self.assertEqual(desk.say("text a"), "right 0 1 ; up 1 0")
        self.assertEqual(desk.say("keep a " + written(TWENTY_SQUARES)), "kept")
        self.assertEqual(desk.say("text a"), written(TWENTY_SQUARES))
        self.assertEqual(desk.say("keep a right 0 ; up 0"), "kept")
        self.assertEqual(desk.say("holes a"), "1 1")

    def test_lead(self):
        for floor in FLOORS:
            for word in WORDS:
                desk = desk_with({"a": floor, "b": floor})
                self.assertEqual(desk.say("lead a " + word), "kept")
                self.assertEqual(desk.say("text a"), written(led_by_words(floor, read_word(word))))
                self.assertEqual(desk.say("text b"), written(floor))

    def test_lead_again_and_again(self):
        desk = desk_with({"a": STAIRS})
        led = STAIRS
        for word in WORDS[:8]:
            self.assertEqual(desk.say("lead a " + word), "kept")
            led = led_by_words(led, read_word(word))
            self.assertEqual(desk.say("text a"), written(led))

    def test_form(self):
        for floor in FLOORS:
            desk = desk_with({"a": floor, "b": floor})
            self.assertEqual(desk.say("form a"), "kept")
            self.assertEqual(desk.say("text a"), written(form_by_words(floor)))
            self.assertEqual(desk.say("text b"), written(floor))
            self.assertEqual(desk.say("form a"), "kept")
            self.assertEqual(desk.say("text a"), written(form_by_words(floor)))

    def test_holes(self):
        by_hand = {ONE_SQUARE: "1 1", CORNERED: "2 3", TWO_BY_TWO: "1 1 1 1 1", ROW_WITH_COLUMN: "2 1 1 3"}
        for floor, told in by_hand.items():
            self.assertEqual(desk_with({"a": floor}).say("holes a"), told)
        for floor in FLOORS:
            told = desk_with({"a": floor}).say("holes a")
            self.assertEqual([int(word) for word in told.split(" ")], [holes_of(floor)] + list(turns_of(floor)))

    def test_bands(self):
        desk = desk_with({"a": CORNERED, "b": ROW_WITH_COLUMN})
        self.assertEqual(desk.say("bands a 1 0"), "1x1 2x1")
        self.assertEqual(desk.say("bands a 0 1"), "1x1 2x1")
        self.assertEqual(desk.say("bands a 1 1"), "3x1")
        self.assertEqual(desk.say("bands b 1 0"), "1x2 3x1")
        for floor in FLOORS:
            desk = desk_with({"a": floor})
            own = " ".join("%dx%d" % band[:2] for band in bands_by_words(floor))
            self.assertEqual(desk.say("bands a 1 0"), own)
            for a, c in ((0, 1), (-1, 1), (3, 2), (-5, 7), (999, 998), (-999, 1), (10, 999), (-100, 99)):
                told = desk.say("bands a " + str(a) + " " + str(c))
                self.assertEqual(told, " ".join("%dx%d" % band for band in bands_along(floor, (a, c))))

    def test_chart(self):
        by_hand = {ONE_SQUARE: "1 1", CORNERED: "3 2", FOUR: "4 2", ONE_ROW: "6 3", OF_36_ROWS: "36 8"}
        for floor, told in by_hand.items():
            self.assertEqual(desk_with({"a": floor}).say("chart a"), told)
        for floor in SMALL:
            chart = chart_of(floor)
            told = desk_with({"a": floor}).say("chart a")
            self.assertEqual(told, str(len(chart)) + " " + str(len(kinds_of(chart))))

    def test_meet(self):
        desk = desk_with({"a": ONE_ROW, "b": ONE_COLUMN, "c": TWO_BY_TWO, "d": OF_96_ROWS})
        self.assertEqual(desk.say("meet a a"), "led .")
        self.assertEqual(desk.say("meet a b"), "led t1")
        self.assertEqual(desk.say("meet a c"), "apart")
        self.assertEqual(desk.say("meet c d"), "apart")
        for one, other in product(SMALL, repeat=2):
            told = meet(one, other)
            answer = "apart" if told[0] == "apart" else "led " + show_word(told[1])
            self.assertEqual(desk_with({"one": one, "other": other}).say("meet one other"), answer)

    def test_meet_led_by_the_word_told(self):
        for floor in SMALL:
            desk = desk_with({"a": floor, "b": floor})
            desk.say("lead b s2 t1 s-1")
            told = desk.say("meet a b")
            self.assertTrue(told.startswith("led "))
            desk.say("lead a " + told[4:])
            desk.say("form a")
            desk.say("form b")
            self.assertEqual(desk.say("text a"), desk.say("text b"))

    def test_two_desks_side_by_side(self):
        one = desk_with({"a": CORNERED})
        other = desk_with({"a": ONE_ROW, "b": FOUR})
        one.say("lead a s1")
        self.assertEqual(other.say("text a"), written(ONE_ROW))
        other.say("form b")
        with self.assertRaises(NoName):
            one.say("text b")
        self.assertEqual(one.say("text a"), written(led_by_words(CORNERED, (("s", 1),))))

    def test_the_same_while_it_keeps_the_same(self):
        desk = desk_with({"a": FOUR, "b": CORNERED})
        rows = ("text a", "holes a", "bands a 2 1", "chart a", "meet a b", "meet a a")
        first = [desk.say(row) for row in rows]
        self.assertEqual([desk.say(row) for row in rows], first)
        desk.say("lead b s1")
        desk.say("keep c right 0 ; up 0")
        desk.say("lead a t1")
        desk.say("lead a t3")
        self.assertEqual([desk.say(row) for row in rows], first)
        self.assertTrue(all(type(answer) is str for answer in first))


class WithKept(unittest.TestCase):
    """A desk that keeps some floors, which every refusal leaves as they are."""

    def setUp(self):
        self.kept = {
            "a": CORNERED, "b": FOUR, "six": OF_96_ROWS, "seven": SEVEN, "eight": STAIRS, "nine": NINE,
            "twenty": TWENTY_SQUARES,
        }
        self.desk = desk_with(self.kept)

    def assert_refused(self, told, error, **fields):
        with self.assertRaises(FloorError) as taken:
            self.desk.say(told)
        self.assertIs(type(taken.exception), error, told)
        for field, thing in fields.items():
            self.assertEqual(getattr(taken.exception, field), thing, told)
        # What is refused changes nothing.
        for name, floor in self.kept.items():
            self.assertEqual(self.desk.say("text " + name), written(floor))


class Refused(WithKept):
    def test_no_rows(self):
        for row in NO_ROWS:
            self.assert_refused(row, NoRow)

    def test_line_feeds(self):
        rows = (
            "keep a right 0\nup 0", "keep a right 0 ; up 0\n", "\nkeep a right 0 ; up 0", "keep\na right 0 ; up 0",
            "lead a s1\n", "lead a\ns1", "lead a s1\nt1", "form a\n", "\n", "text\na", "bands a 1\n0", "meet a b\n",
            "bands a 1 0\n", "chart a\n", "holes \na", "keep a\n right 0 ; up 0", "keep x right 0 ;\nup 0",
        )
        for row in rows:
            self.assert_refused(row, NoRow)

    def test_names(self):
        for name in NO_NAMES:
            rows = (
                "keep NAME right 0 ; up 0", "lead NAME s1", "form NAME", "text NAME", "holes NAME", "bands NAME 1 0",
                "chart NAME", "meet NAME a", "meet a NAME",
            )
            for row in rows:
                self.assert_refused(row.replace("NAME", name), NoRow)

    def test_numbers(self):
        for number in NO_NUMBERS:
            self.assert_refused("bands a " + number + " 1", NoRow)
            self.assert_refused("bands a 1 " + number, NoRow)

    def test_no_name(self):
        for row in ("lead NAME s1", "form NAME", "text NAME", "holes NAME", "bands NAME 1 0", "chart NAME"):
            for name in ("c", "aa", "zzzzzz", "keep"):
                self.assert_refused(row.replace("NAME", name), NoName, name=name)

    def test_no_name_of_two(self):
        self.assert_refused("meet c a", NoName, name="c")
        self.assert_refused("meet a c", NoName, name="c")
        self.assert_refused("meet c d", NoName, name="c")
        self.assert_refused("meet d c", NoName, name="d")

    def test_nothing_kept(self):
        self.desk = Desk()
        self.kept = {}
        self.assert_refused("text a", NoName, name="a")
        self.assert_refused("keep a right 0 ; up 1", NoText, row=1)
        self.assert_refused("text a", NoName, name="a")

    def test_no_text_of_floors(self):
        rows = {
            "right": 0, "right 0": 1, "right 0 ; up": 1, "right 0 ; up 1": 1, "right 1 ; up 0": 0, "up 0": 0,
            "right 0 ; up 0 ; up 0": 2, "right 0 ; up 0 ; ": 2, "right 0 1 ; up 0 1": 1, "right 0 ;  up 0": 1,
            "right 0  ; up 0": 0, "right  0 ; up 0": 0, " right 0 ; up 0": 0, "right 0 ; up 0 ": 1, " ": 0, "  ": 0,
            "right 0 ; up  0": 1, "right 0; up 0": 0, "right 0 ;up 0": 0, "right 0 up 0": 0, ";": 0, " ; ": 0,
            "right 0 ; ; up 0": 1, "right 00 ; up 0": 0, "right 0 ; up 00": 1, "right 0 ; up 0 1": 1, ".": 0,
            "right 1 0 ; up 0": 1, " ; right 0 ; up 0": 0, "right 0 ;": 0, "right 0 ; ": 1, "right 0 ; up 0 ;": 1,
            "right 0 ; up 0 ; ;": 2, "right " + " ".join(map(str, range(21))) + " ; up 0": 0,
        }
        for text, row in rows.items():
            self.assert_refused("keep a " + text, NoText, row=row)
            self.assert_refused("keep new " + text, NoText, row=row)
        self.assert_refused("text new", NoName, name="new")

    def test_line_feeds_first_ones_from_the_left(self):
        # Of ` ; ; ` the first three signs are the line feed.
        self.assert_refused("keep a right 0 ; ; up 0", NoText, row=1)
        self.assert_refused("keep a right 0 ; ; ; up 0", NoText, row=1)
        self.assert_refused("keep a right 0 ; up 0 ; ; ", NoText, row=2)

    def test_no_text_of_words(self):
        words = (
            " ", "  ", " s1", "s1 ", "s1  t1", "s0", "t0", "t4", "s", "t", "s01", "s-0", "s+1", "s12345", "s-12345",
            "S1", "x1", "s1,t1", ". s1", "..", " .", ". ", "t-1", "t01", "1", "s1t1", "s 1", "s1 ; t1",
        )
        for word in words:
            self.assert_refused("lead a " + word, NoText, row=0)

    def test_no_slope(self):
        pairs = ("0 0", "-1 0", "2 0", "0 2", "2 2", "-2 4", "1 -1", "0 -1", "999 -1", "-999 999", "3 -2", "998 996")
        for pair in pairs:
            self.assert_refused("bands a " + pair, NoSlope)

    def test_more_than_eight_squares(self):
        for name in ("nine", "twenty"):
            for row in ("lead NAME s1", "lead NAME .", "form NAME", "holes NAME", "bands NAME 1 0", "chart NAME"):
                self.assert_refused(row.replace("NAME", name), NoRow)
            for row in ("meet NAME a", "meet a NAME", "meet NAME NAME"):
                self.assert_refused(row.replace("NAME", name), NoRow)
            self.assertEqual(self.desk.say("text " + name), written(self.kept[name]))

    def test_more_than_six_squares(self):
        for name in ("seven", "eight"):
            for row in ("chart NAME", "meet NAME a", "meet a NAME", "meet NAME NAME"):
                self.assert_refused(row.replace("NAME", name), NoRow)
        for name in ("seven", "eight"):
            for row in ("holes NAME", "bands NAME 1 0", "text NAME", "lead NAME s1", "form NAME"):
                self.assertIs(type(self.desk.say(row.replace("NAME", name))), str)

    def test_too_many(self):
        for floor in (OF_96_ROWS, OF_120_ROWS):
            self.kept["six"] = floor
            self.desk = desk_with(self.kept)
            for row in ("chart six", "meet six six", "meet six a"):
                self.assert_refused(row, TooMany, most=60)
            self.assertEqual(self.desk.say("meet a six"), "apart")


class Order(WithKept):
    """Of two refusals that are due the one that stands ahead in the order is told."""

    def test_no_row_ahead_of_no_name(self):
        rows = ("form c ", "text c c", "bands c 1 00", "bands c 1000 1", "meet c A", "meet A c", "lead c ", "meet c")
        for row in rows:
            self.assert_refused(row, NoRow)
        self.assert_refused("lead c s1\n", NoRow)

    def test_no_row_ahead_of_no_text(self):
        for row in ("keep A right", "keep abcdefg up", "lead A s0", "keep a right 0\n", "lead a s0\n", "lead a1 x"):
            self.assert_refused(row, NoRow)

    def test_no_row_ahead_of_no_slope(self):
        for row in ("bands a 0 00", "bands a 2000 2", "bands A 0 0", "bands a 0 -0", "bands a 0 0 0"):
            self.assert_refused(row, NoRow)

    def test_no_name_ahead_of_no_text(self):
        for word in ("s0", " s1", "x", "s1 ", "t4"):
            self.assert_refused("lead c " + word, NoName, name="c")

    def test_no_name_ahead_of_no_slope(self):
        for pair in ("0 0", "2 2", "1 -1", "-1 0"):
            self.assert_refused("bands c " + pair, NoName, name="c")

    def test_no_name_ahead_of_the_size_and_too_many(self):
        self.assert_refused("meet twenty c", NoName, name="c")
        self.assert_refused("meet c twenty", NoName, name="c")
        self.assert_refused("meet seven c", NoName, name="c")
        self.assert_refused("meet six c", NoName, name="c")

    def test_no_text_ahead_of_the_size(self):
        for name in ("nine", "twenty"):
            for word in ("s0", "x", " s1", "s1  t1"):
                self.assert_refused("lead " + name + " " + word, NoText, row=0)

    def test_no_slope_ahead_of_the_size(self):
        for name in ("nine", "twenty"):
            for pair in ("0 0", "2 2", "1 -1", "-1 0"):
                self.assert_refused("bands " + name + " " + pair, NoSlope)

    def test_the_size_ahead_of_too_many(self):
        # The chart of the seven squares has more than 60 rows, that of the six too.
        with self.assertRaises(TooMany):
            chart_of(SEVEN)
        self.assert_refused("chart seven", NoRow)
        self.assert_refused("meet seven seven", NoRow)
        self.assert_refused("meet six seven", NoRow)
        self.assert_refused("meet six twenty", NoRow)
        self.assert_refused("meet seven six", NoRow)


if __name__ == "__main__":
    unittest.main()
