"""The calls that tell of one tube and change nothing: place, tube, past."""

from tubebook.refusals import OUT_OF_RANGE


def tell_place(book, t):
    if not book.has_tube(t):
        return [OUT_OF_RANGE]
    return [0] + list(book.tubes[t].place)


def tell_tube(book, t):
    if not book.has_tube(t):
        return [OUT_OF_RANGE]
    tube = book.tubes[t]
    return [0, tube.amount, tube.capacity, tube.draw, len(tube.label)] + tube.label


def tell_past(book, t):
    if not book.has_tube(t):
        return [OUT_OF_RANGE]
    return [0] + list(book.tubes[t].past)
