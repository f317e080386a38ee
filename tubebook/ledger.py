"""The calls that tell of the whole book: books, find, entry, counts."""

from tubebook.book import THROWN, USED
from tubebook.refusals import OUT_OF_RANGE


def books(book, d):
    if not book.has_draw(d):
        return [OUT_OF_RANGE]
    draw = book.draws[d]
    held = sum([tube.amount for tube in book.tubes if tube.draw == d])
    return [0, draw.person, draw.order, draw.amount, held, gone(book, d, USED), gone(book, d, THROWN)]


def gone(book, d, kind):
    # An entry doesn't tell its draw, but a tube keeps the one it has. The amount is the last of an entry's numbers.
    return sum([entry[-1] for entry in book.entries if entry[1] == kind and book.tubes[entry[2]].draw == d])


def find_label(book, label):
    found = [t for t, tube in enumerate(book.tubes) if tube.label == label]
    return [0, len(found)] + found


def tell_entry(book, e):
    if not book.has_entry(e):
        return [OUT_OF_RANGE]
    return [0] + list(book.entries[e])


def counts(book):
    return [0, book.minute, len(book.racks), len(book.draws), len(book.tubes), len(book.entries)]
