"""Words: tuples of steps ("s", k), sheared, and ("t", k), turned by quarters [11]."""

from shearfloor.tables import times

UNMOVED = (1, 0, 0, 1)
QUARTER = (0, -1, 1, 0)


def step_table(step):
    """The table of one step."""
    if step[0] == "s":
        return (1, step[1], 0, 1)
    table = UNMOVED
    for turn in range(step[1]):
        table = times(QUARTER, table)
    return table


def table_of(word):
    """The word's table: the last step's times that of the steps ahead."""
    table = UNMOVED
    for step in word:
        table = times(step_table(step), table)
    return table


def joined(one, other):
    """Two steps of one letter as a plain word: of one step, or of none where 0 comes."""
    number = one[1] + other[1]
    if one[0] == "t":
        number = number % 4
    if number == 0:
        return ()
    return ((one[0], number),)


def made_plain(word):
    """The word with neighbours of one letter put together, again and again."""
    plain = ()
    # What is made so far stays plain, so only its last step can meet one of its letter.
    for step in word:
        if len(plain) > 0 and plain[-1][0] == step[0]:
            plain = plain[:-1] + joined(plain[-1], step)
        else:
            plain = plain + (step,)
    return plain


def put_together(one, other):
    """The one word and behind it the other, made plain."""
    return made_plain(one + other)


def back_step(step):
    """The step that undoes the step."""
    if step[0] == "s":
        return ("s", -step[1])
    return ("t", 4 - step[1])


def back_word(word):
    """The word turned back; it isn't made plain."""
    return tuple([back_step(step) for step in reversed(word)])
