import re
import unittest

from samples import CORNERED, FOUR, LONG_ROW, ONE_SQUARE, TWENTY_SQUARES, is_sewn, is_told_kind, small_floors
from shearfloor.errors import NoText
from shearfloor.floortexts import read_floor, show_floor

CORNERED_TEXT = "right 1 0 2\nup 2 1 0"
LONG_TEXT = "right 1 2 3 4 5 6 7 8 9 10 11 12 13 14 15 16 17 18 19 0"
TWENTY_TEXT = LONG_TEXT + "\nup 19 18 17 16 15 14 13 12 11 10 9 8 7 6 5 4 3 2 1 0"


class ShowFloor(unittest.TestCase):
    def test_texts(self):
        self.assertEqual(show_floor(ONE_SQUARE), "right 0\nup 0")
        self.assertEqual(show_floor(CORNERED), CORNERED_TEXT)
        self.assertEqual(show_floor(TWENTY_SQUARES), TWENTY_TEXT)

    def test_the_same_when_asked_again(self):
        self.assertEqual(show_floor(FOUR), show_floor(FOUR))
        self.assertIs(type(show_floor(FOUR)), str)


class ReadFloor(unittest.TestCase):
    def test_texts(self):
        self.assertEqual(read_floor("right 0\nup 0"), ONE_SQUARE)
        self.assertEqual(read_floor(CORNERED_TEXT), CORNERED)
        self.assertEqual(read_floor(TWENTY_TEXT), TWENTY_SQUARES)

    def test_each_floor_is_read_from_its_text(self):
        floors = small_floors() + [TWENTY_SQUARES, (tuple(range(20)), LONG_ROW)]
        for floor in floors:
            told = read_floor(show_floor(floor))
            self.assertEqual(told, floor)
            self.assertTrue(is_told_kind(told))
        self.assertEqual(len({show_floor(floor) for floor in floors}), len(floors))

    def test_the_same_when_asked_again(self):
        self.assertEqual(read_floor(CORNERED_TEXT), read_floor(CORNERED_TEXT))


def row_refused(text):
    """The row of NoText, or None where the text is read."""
    try:
        read_floor(text)
    except NoText as refusal:
        return refusal.row
    return None


def numbers_looked_for(row, name):
    """A slow second look at one row: its numbers, or None."""
    if not re.fullmatch(name + r"( (0|[1-9][0-9]*))+", row, re.ASCII):
        return None
    numbers = [int(word) for word in row.split()[1:]]
    if len(numbers) > 20 or sorted(numbers) != list(range(len(numbers))):
        return None
    return numbers


def row_looked_for(text):
    """The row that the document asks for, by a second look."""
    rows = text.split("\n")
    right = numbers_looked_for(rows[0], "right")
    if right is None:
        return 0
    up = numbers_looked_for(rows[1], "up") if len(rows) > 1 else None
    if up is None or len(up) != len(right) or not is_sewn(right, up):
        return 1
    return 2 if len(rows) > 2 else None


class Refused(unittest.TestCase):
    def assert_rows(self, row, texts):
        for text in texts:
            self.assertEqual(row_refused(text), row, text)
            self.assertEqual(row_looked_for(text), row, text)

    def test_row_0_by_its_words(self):
        self.assert_rows(0, (
            "", " ", "\n", "\nup 0", "right", "right ", "right\nup", "right \nup ", "right\nup 0", "up 0\nright 0",
            "Right 0\nup 0", "rightx 0\nup 0", "righ 0\nup 0", "right0\nup 0", " right 0\nup 0", "0\nup 0",
            "right 1 x\nup 0 1", "right 0,1\nup 0 1", "right +0\nup 0", "right 0.0\nup 0", "right 0; up 0",
        ))

    def test_row_0_by_blanks(self):
        self.assert_rows(0, ("right  0\nup 0", "right 0 \nup 0", "right 1  0\nup 0 1", "right 1 0 \nup 0 1"))

    def test_row_0_by_a_nought_ahead(self):
        self.assert_rows(0, ("right 00\nup 0", "right 01 0\nup 0 1", "right 1 00\nup 0 1", "right 1 0 02\nup 2 1 0"))

    def test_row_0_by_its_numbers(self):
        self.assert_rows(0, (
            "right 0 0\nup 0 1", "right 1 1\nup 0 1", "right 1\nup 0", "right 0 2\nup 0 1", "right 1 2\nup 0 1",
            "right -1\nup 0", "right 0 -1\nup 0 1", "right -0\nup 0", "right 1 2 3\nup 0 1 2",
            "right " + "9" * 300 + "\nup 0",
        ))

    def test_row_0_by_21_numbers(self):
        row = " ".join(str(k) for k in range(21))
        self.assert_rows(0, ("right " + row, "right " + row + "\nup " + row, LONG_TEXT + " 20\nup 0"))

    def test_row_1_lacks(self):
        self.assert_rows(1, ("right 0", "right 1 0 2", LONG_TEXT))

    def test_row_1_by_its_words(self):
        self.assert_rows(1, (
            "right 0\n", "right 0\n\n", "right 0\nup", "right 0\nup ", "right 0\nright 0", "right 0\n0",
            "right 0\nUp 0", "right 0\nup0", "right 0\n up 0", "right 0\nup  0", "right 0\nup 0 ", "right 0\nup 00",
            "right 0\nup -0", "right 1 0\nup 0 01", "right 0\n\nup 0", "right 0\nup x",
        ))

    def test_row_1_by_its_numbers(self):
        self.assert_rows(1, (
            "right 0\nup 1", "right 0\nup -1", "right 1 0\nup 0 0", "right 1 0\nup 1 2", "right 1 0\nup 0",
            "right 1 0\nup 0 1 2", "right 0\nup 0 1", LONG_TEXT + "\n" + LONG_TEXT.replace("right", "up") + " 20",
        ))

    def test_row_1_by_parted(self):
        self.assert_rows(1, ("right 0 1\nup 0 1", "right 1 0 2\nup 1 0 2", "right 0 2 1\nup 0 1 2"))

    def test_row_2(self):
        self.assert_rows(2, (
            "right 0\nup 0\n", "right 0\nup 0\n\n", "right 0\nup 0\nup 0", "right 0\nup 0\n ", CORNERED_TEXT + "\n",
            TWENTY_TEXT + "\n", TWENTY_TEXT + "\nright 0",
        ))

    def test_the_first_row_that_cant_be_one(self):
        self.assert_rows(0, ("right 0 0\nup 0 0\n", "right 00\nup 1\nx", "right\n\n\n"))
        self.assert_rows(1, ("right 0\nup 1\n", "right 0 1\nup 0 1\n", "right 0\n\n\n"))

    def test_all_texts_one_sign_away(self):
        signs = "\n 012-9rup~"
        for text in ("right 0\nup 0", CORNERED_TEXT, "right 1 2 3 4 5 6 7 8 9 10 0\nup 0 1 2 3 4 5 6 7 8 9 10"):
            for place in range(len(text) + 1):
                others = [text[:place] + text[place + 1:]]
                others += [text[:place] + sign + text[place:] for sign in signs]
                others += [text[:place] + sign + text[place + 1:] for sign in signs]
                for other in others:
                    self.assertEqual(row_refused(other), row_looked_for(other), repr(other))
                    if row_refused(other) is None:
                        self.assertEqual(show_floor(read_floor(other)), other)


if __name__ == "__main__":
    unittest.main()
