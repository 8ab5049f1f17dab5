"""The group of a floor, the makers of a chart, and tables written by them [24 to 26]."""

from shearfloor.anew import form_of
from shearfloor.charts import QUARTER, SHEAR, row_turnings
from shearfloor.dividing import word_of
from shearfloor.leading import led_by_table
from shearfloor.turnings import turned_back
from shearfloor.words import back_word, table_of


def is_of_group(floor, table):
    """Whether the table leads the floor to its own form."""
    return led_by_table(floor, table) == form_of(floor)


def maker_places(chart):
    """For each maker in order its row's number, its step, and the number of the row to which that leads."""
    places = []
    rows_so_far = 1
    for number, row in enumerate(chart):
        for step, reached in ((SHEAR, row[2]), (QUARTER, row[3])):
            # A row's number is the count of those ahead of it just where it is led to for the first time.
            if reached == rows_so_far:
                rows_so_far = rows_so_far + 1
            else:
                places.append((number, step, reached))
    return tuple(places)


def makers_of(chart):
    """The makers of the chart, in order."""
    makers = []
    for number, step, reached in maker_places(chart):
        makers.append(table_of(chart[number][1] + (step,) + back_word(chart[reached][1])))
    return tuple(makers)


def written_by(chart, table):
    """The table as pairs (number of a maker, 1 or -1), or None where it isn't of the group of row 0's floor."""
    turnings = row_turnings(chart)
    ahead = {"s": turnings[0], "t": turnings[1]}
    back = turned_back(turnings[0])
    numbers = maker_numbers(chart)
    pairs = []
    row = 0
    for letter, way in single_steps(word_of(table)):
        # Only shears go back: that is the shear of the row to which it leads, undone.
        if way == -1:
            row = back[row]
        if (row, letter) in numbers:
            pairs.append((numbers[(row, letter)], way))
        if way == 1:
            row = ahead[letter][row]
    return tuple(pairs) if row == 0 else None


def maker_numbers(chart):
    """A dict of the makers' numbers by row and letter."""
    numbers = {}
    for maker, place in enumerate(maker_places(chart)):
        numbers[(place[0], place[1][0])] = maker
    return numbers


def single_steps(word):
    """A list of (letter, 1 or -1) for each time that the word shears or turns."""
    singles = []
    for step in word:
        way = 1 if step[1] > 0 else -1
        singles.extend([(step[0], way)] * abs(step[1]))
    return singles
