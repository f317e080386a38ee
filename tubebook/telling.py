"""The calls that tell of one tube and change nothing: place, tube, past, fits, then."""

from tubebook.pasts import THAWS, WARM
from tubebook.places import WASTE
from tubebook.refusals import NOT_THERE_YET, OUT_OF_RANGE

MOST_ASKED = 1000000


def tell_place(book, t):
    if not book.has_tube(t):
        return [OUT_OF_RANGE]
    return [0] + list(book.tubes[t].place)


def tell_tube(book, t):
    if not book.has_tube(t):
        return [OUT_OF_RANGE]
    tube = book.tubes[t]
    return [0, tube.amount, tube.capacity, tube.draw, len(tube.label)] + tube.label


def tell_past(book, t):
    if not book.has_tube(t):
        return [OUT_OF_RANGE]
    return [0] + list(book.tubes[t].past)


def fits(book, t, most, thaws):
    if not (book.has_tube(t) and 0 <= most <= MOST_ASKED and 0 <= thaws <= MOST_ASKED):
        return [OUT_OF_RANGE]
    tube = book.tubes[t]
    if tube.place == WASTE or tube.amount == 0:
        return [0, 0]
    if tube.past[WARM] > most or tube.past[THAWS] > thaws:
        return [0, 0]
    return [0, 1]


def then(book, t, minute):
    if not (0 <= minute <= book.minute and book.has_tube(t)):
        return [OUT_OF_RANGE]
    places = [place for came, place in book.tubes[t].stays if came <= minute]
    if len(places) == 0:
        return [NOT_THERE_YET]
    return [0] + list(places[-1])
