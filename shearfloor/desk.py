"""A desk that keeps floors by names and is told rows [31]."""

from shearfloor.anew import form_of
from shearfloor.charts import chart_of
from shearfloor.corners import holes_of, turns_of
from shearfloor.errors import NoName, NoRow
from shearfloor.floortexts import read_floor, show_floor
from shearfloor.kinds import kinds_of
from shearfloor.leading import led_by
from shearfloor.meeting import meet
from shearfloor.slopes import bands_along, slope_table
from shearfloor.wordtexts import is_number_but_nought, read_word, show_word

LETTERS = "abcdefghijklmnopqrstuvwxyz"
MOST_LETTERS = 6
MOST_FIGURES = 3
LINE_FEED = " ; "
# How many words the rows of each first word have, and how many squares the floors at most that are named there.
WORD_COUNTS = {"keep": 3, "lead": 3, "form": 2, "text": 2, "holes": 2, "bands": 4, "chart": 2, "meet": 3}
SQUARE_COUNTS = {"lead": 8, "form": 8, "text": 20, "holes": 8, "bands": 8, "chart": 6, "meet": 6}


class Desk:
    """Keeps floors by names, and is told rows."""

    def __init__(self):
        self.floors = {}

    def say(self, row):
        """The answer to the row, or a refusal, by which nothing is changed."""
        words = read_row(row)
        if words[0] == "keep":
            return self.keep(words[1], read_floor(words[2].replace(LINE_FEED, "\n")))
        floors = self.named_by(words)
        given = read_given(words)
        look_sizes(words[0], floors)
        if words[0] == "lead":
            return self.keep(words[1], led_by(floors[0], given))
        if words[0] == "form":
            return self.keep(words[1], form_of(floors[0]))
        return answer(words[0], floors, given)

    def keep(self, name, floor):
        """Keep the floor by the name from now on; the answer to that."""
        self.floors[name] = floor
        return "kept"

    def named_by(self, words):
        """The floors kept by the row's names, or NoName of the first one by which nothing is kept."""
        floors = []
        for name in names_of(words):
            if name not in self.floors:
                raise NoName(name)
            floors.append(self.floors[name])
        return floors


def read_row(row):
    """The row's words, a TEXT or WORD as one of them, or NoRow."""
    first = row.partition(" ")[0]
    if "\n" in row or first not in WORD_COUNTS:
        raise NoRow()
    words = row.split(" ", 2) if first in ("keep", "lead") else row.split(" ")
    if len(words) != WORD_COUNTS[first] or "" in words:
        raise NoRow()
    if not all([is_name(name) for name in names_of(words)]):
        raise NoRow()
    if first == "bands" and not all([is_number(number) for number in words[2:]]):
        raise NoRow()
    return words


def names_of(words):
    """Those of the row's words that are to be names."""
    if words[0] == "meet":
        return words[1:]
    return words[1:2]


def is_name(text):
    """Whether the text is a name."""
    return 0 < len(text) and len(text) <= MOST_LETTERS and all([letter in LETTERS for letter in text])


def is_number(text):
    """Whether the text is a whole number as slopes are told."""
    return text == "0" or is_number_but_nought(text, MOST_FIGURES)


def read_given(words):
    """What the row gives besides names: a word, or NoText; a slope, or NoSlope; else None."""
    if words[0] == "lead":
        return read_word(words[2])
    if words[0] == "bands":
        slope = (int(words[2]), int(words[3]))
        # It is asked for its refusal alone.
        slope_table(slope)
        return slope
    return None


def look_sizes(first, floors):
    """Refuse floors of more squares than rows of the first word are for."""
    for floor in floors:
        if len(floor[0]) > SQUARE_COUNTS[first]:
            raise NoRow()


def answer(first, floors, given):
    """The answer to a row that changes nothing."""
    if first == "text":
        return show_floor(floors[0]).replace("\n", LINE_FEED)
    if first == "holes":
        return parted([holes_of(floors[0])] + list(turns_of(floors[0])))
    if first == "bands":
        return " ".join([str(band[0]) + "x" + str(band[1]) for band in bands_along(floors[0], given)])
    if first == "chart":
        chart = chart_of(floors[0])
        return parted([len(chart), len(kinds_of(chart))])
    told = meet(floors[0], floors[1])
    if told[0] == "led":
        return "led " + show_word(told[1])
    return "apart"


def parted(numbers):
    """The numbers, parted by blanks."""
    return " ".join([str(number) for number in numbers])
