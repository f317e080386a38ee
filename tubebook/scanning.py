"""The calls that hold a rack against the book: scan, print."""

from tubebook.book import NO_TUBE
from tubebook.refusals import OUT_OF_RANGE
from tubebook.sheets import NO_LINE, read_sheet, write_line

AS_TOLD = 0
NOT_TOLD = 1
NOT_THERE = 2
OTHER_LABEL = 3


def scan(book, r, numbers):
    if not book.has_rack(r):
        return [OUT_OF_RANGE]
    sheet = read_sheet(book.racks[r], numbers)
    if sheet.wrong_line != NO_LINE:
        return [1, sheet.wrong_line]
    return [0] + [compare(book, t, sheet.told.get(slot)) for slot, t in enumerate(book.tubes_by_slot(r))]


def compare(book, t, label):
    if t == NO_TUBE:
        return AS_TOLD if label is None else NOT_THERE
    if label is None:
        return NOT_TOLD
    return AS_TOLD if label == book.tubes[t].label else OTHER_LABEL


def print_rack(book, r):
    if not book.has_rack(r):
        return [OUT_OF_RANGE]
    written = []
    for slot, t in enumerate(book.tubes_by_slot(r)):
        if t != NO_TUBE:
            written.extend(write_line(book.racks[r], slot, book.tubes[t].label))
    return [0, len(written)] + written
