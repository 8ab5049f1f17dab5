"""Kinds of a chart's rows and of slopes [23]."""

from shearfloor.charts import row_turnings
from shearfloor.dividing import shears, word_of
from shearfloor.floors import squares_from
from shearfloor.slopes import slope_table
from shearfloor.tables import times, undone
from shearfloor.turnings import followed, often
from shearfloor.words import table_of


def level_turnings(chart):
    """The turnings of the rows' numbers by one shear and by a turn by half."""
    turnings = row_turnings(chart)
    return (turnings[0], followed(turnings[1], turnings[1]))


def kinds_of(chart):
    """The kinds of the chart's rows, sorted, each a rising tuple of their numbers."""
    turnings = level_turnings(chart)
    kinds = []
    for number in range(len(chart)):
        # Rows are walked like the squares of a floor: shears lead as to the right, half turns as upward.
        kind = tuple(sorted(squares_from(turnings, number)))
        if kind not in kinds:
            kinds.append(kind)
    # Each came when its least number was gone by, so they are sorted.
    return tuple(kinds)


def row_at(chart, word):
    """The number of the row to which the word leads from row 0, of a told chart."""
    turnings = row_turnings(chart)
    reached = 0
    for step in word:
        turning = turnings[0] if step[0] == "s" else turnings[1]
        reached = often(turning, step[1])[reached]
    return reached


def slope_row(chart, slope):
    """The number of the row to whose floor the slope's table leads the floor of row 0."""
    return row_at(chart, word_of(slope_table(slope)))


def kind_at(chart, slope):
    """The number, among the chart's kinds, of the slope's kind."""
    row = slope_row(chart, slope)
    return [row in kind for kind in kinds_of(chart)].index(True)


def kind_table(chart, one, other):
    """A table of the group of row 0's floor that leads the one slope to the other or to it times -1, or None."""
    between = level_word_between(chart, slope_row(chart, one), slope_row(chart, other))
    if between is None:
        return None
    # From the one to (1, 0), which is kept or turned about, and from there to the other.
    return times(undone(slope_table(other)), times(table_of(between), slope_table(one)))


def level_word_between(chart, first, last):
    """A word of shears and turns by half that leads from the one row to the other, or None."""
    turnings = level_turnings(chart)
    reached = first
    # Two turns by half are none, and one leads on alike ahead of shears and behind them: one at the end is enough.
    for k in range(len(chart)):
        if reached == last:
            return shears(k)
        if turnings[1][reached] == last:
            return shears(k) + (("t", 2),)
        reached = turnings[0][reached]
    return None
