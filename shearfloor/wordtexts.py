"""A word's text, written and read [13]."""

from shearfloor.errors import NoText

NO_STEPS = "."
FIGURES = "0123456789"
MOST_FIGURES = 4
QUARTERS = ("1", "2", "3")


def show_word(word):
    """The word's text."""
    if len(word) == 0:
        return NO_STEPS
    return " ".join([step[0] + str(step[1]) for step in word])


def read_word(text):
    """The word of the text, else NoText."""
    if text == NO_STEPS:
        return ()
    return tuple([read_step(part) for part in text.split(" ")])


def read_step(text):
    """The step of one letter and its number, else NoText."""
    letter = text[:1]
    number = text[1:]
    if letter == "s" and is_number_but_nought(number, MOST_FIGURES):
        return (letter, int(number))
    if letter == "t" and number in QUARTERS:
        return (letter, int(number))
    raise NoText(0)


def is_number_but_nought(text, most):
    """Whether the text is a whole number but 0, written in at most so many figures."""
    figures = text
    if text.startswith("-"):
        figures = text[1:]
    if len(figures) < 1 or len(figures) > most or figures[0] == "0":
        return False
    # Python's own looks at figures let those of other scripts by.
    return all([figure in FIGURES for figure in figures])
