"""Two floors: a word that leads the one to the other, or a chart in which the other isn't [19]."""

from shearfloor.anew import called_anew, callings
from shearfloor.charts import chart_of
from shearfloor.leading import led_by


def meet(one, other, most=60):
    """("led", word, p) or ("apart", chart), or TooMany where the first one's chart has more than most rows."""
    chart = chart_of(one, most)
    for row in chart:
        word = row[1]
        found = callings(led_by(one, word), other)
        if len(found) > 0:
            return ("led", word, found[0])
    return ("apart", chart)


def leads_to(one, other, word, p):
    """Whether the one floor, led by the word and called anew by p, is the other."""
    if len(p) != len(one[0]):
        return False
    return called_anew(led_by(one, word), p) == other
