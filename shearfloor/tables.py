"""Tables: four whole numbers (a, b, c, d), a d less b c being 1 [10]."""


def is_table(thing):
    """Whether a tuple of whole numbers is a table."""
    return len(thing) == 4 and thing[0] * thing[3] - thing[1] * thing[2] == 1


def times(one, other):
    """One table times the other."""
    return (
        one[0] * other[0] + one[1] * other[2],
        one[0] * other[1] + one[1] * other[3],
        one[2] * other[0] + one[3] * other[2],
        one[2] * other[1] + one[3] * other[3],
    )


def undone(table):
    """The table by which, times the first one, nothing is changed."""
    return (table[3], -table[1], -table[2], table[0])


def led_pair(table, pair):
    """The pair to which the table leads the pair."""
    return (
        table[0] * pair[0] + table[1] * pair[1],
        table[2] * pair[0] + table[3] * pair[1],
    )
