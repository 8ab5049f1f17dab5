"""A table written as a word, by dividing again and again [12]."""

from shearfloor.errors import NoTable
from shearfloor.tables import is_table, led_pair, times
from shearfloor.words import back_word, put_together, table_of


def word_of(table):
    """A plain word whose table it is, or NoTable of four numbers that are none."""
    if not is_table(table):
        raise NoTable()
    gone = level_steps((table[0], table[2]))
    return put_together(level_word(times(table_of(gone), table)), back_word(gone))


def level_steps(pair):
    """A word whose table leads the pair to one whose second number is 0."""
    gone = ()
    left = pair
    # Each round brings the second number to its half or less, so that few rounds are gone.
    while left[1] != 0:
        steps = shears(-nearest(left[0], left[1])) + (("t", 1),)
        left = led_pair(table_of(steps), left)
        gone = gone + steps
    return gone


def nearest(number, divisor):
    """The whole number that is nearest to the number divided by the divisor."""
    return (2 * number + divisor) // (2 * divisor)


def shears(k):
    """The word that shears k times; none of its steps has the number 0."""
    if k == 0:
        return ()
    return (("s", k),)


def level_word(table):
    """A word of a table whose third number is 0; its first and its last are both 1 or both -1 then."""
    if table[0] == 1:
        return shears(table[1])
    return (("t", 2),) + shears(-table[1])
