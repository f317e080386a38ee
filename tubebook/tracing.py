"""The calls that follow what was poured: back, from, onto."""

from tubebook.book import DRAWN, POURED
from tubebook.refusals import OUT_OF_RANGE

NO_ENTRY = -1


def back(book, t):
    if not book.has_tube(t):
        return [OUT_OF_RANGE]
    row = row_back(book.entries, t)
    return [0, len(row)] + row


def row_back(entries, t):
    row = []
    # This ends: what was poured on had come into its tube by an entry further ahead.
    e = first_into(entries, t)
    while e != NO_ENTRY:
        row.append(e)
        e = NO_ENTRY if entries[e][1] == DRAWN else first_into(entries, entries[e][2])
    return row


def first_into(entries, t):
    for e, entry in enumerate(entries):
        # Drawn and poured both have, second of their three numbers, the tube that something came into.
        if entry[1] in (DRAWN, POURED) and entry[3] == t:
            return e
    return NO_ENTRY


def sources(book, t):
    if not book.has_tube(t):
        return [OUT_OF_RANGE]
    found = reached(t, [(entry[3], entry[2]) for entry in book.entries if entry[1] == POURED])
    return [0, len(found)] + found


def goals(book, t):
    if not book.has_tube(t):
        return [OUT_OF_RANGE]
    found = reached(t, [(entry[2], entry[3]) for entry in book.entries if entry[1] == POURED])
    return [0, len(found)] + found


def reached(t, steps):
    found = [t]
    at = 0
    while at < len(found):
        for start, end in steps:
            if start == found[at] and end not in found:
                found.append(end)
        at += 1
    return sorted(found)
