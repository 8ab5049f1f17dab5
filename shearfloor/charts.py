"""Charts of all floors to which words lead a floor, made and looked at [17, 18]."""

from shearfloor.anew import form_of
from shearfloor.errors import TooMany
from shearfloor.leading import led_by, quartered, sheared
from shearfloor.words import put_together

SHEAR = ("s", 1)
QUARTER = ("t", 1)


def chart_of(floor, most=60):
    """The floor's chart, or TooMany where it has more than most rows."""
    forms = [form_of(floor)]
    words = [()]
    leads = []
    # Each row that is put behind comes to the loop's head, so that all are counted there.
    while len(leads) < len(forms):
        if len(forms) > most:
            raise TooMany(most)
        place = len(leads)
        s = row_led_to(forms, words, place, SHEAR)
        t = row_led_to(forms, words, place, QUARTER)
        leads.append((s, t))
    return tuple([(forms[k], words[k], leads[k][0], leads[k][1]) for k in range(len(forms))])


def row_led_to(forms, words, place, step):
    """The number of the row to which the step leads from the row at the place; put behind where there is none."""
    form = form_of(led_by(forms[place], (step,)))
    if form not in forms:
        forms.append(form)
        words.append(put_together(words[place], (step,)))
    return forms.index(form)


def row_turnings(chart):
    """The turnings of the rows' numbers by which s and t lead from row to row, of a told chart."""
    return (tuple([row[2] for row in chart]), tuple([row[3] for row in chart]))


def chart_holds(floor, chart):
    """Whether the chart holds for the floor, whoever wrote it."""
    forms = [form_of(row[0]) for row in chart]
    if len(forms) == 0 or forms[0] != form_of(floor):
        return False
    for place, row in enumerate(chart):
        if forms[place] in forms[:place] or not row_holds(floor, row, forms):
            return False
    return True


def row_holds(floor, row, forms):
    """Whether the row's word leads to its floor, and its s and t are the numbers of the forms that they ask for."""
    if form_of(led_by(floor, row[1])) != form_of(row[0]):
        return False
    return has_form(forms, row[2], sheared(row[0], 1)) and has_form(forms, row[3], quartered(row[0]))


def has_form(forms, number, floor):
    """Whether the floor's form is the one of this number."""
    return 0 <= number and number < len(forms) and forms[number] == form_of(floor)
