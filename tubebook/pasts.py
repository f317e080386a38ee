"""Pasts: tuples of minutes warm, minutes cold, minutes frozen, and thaws.

A rack's kind (0 warm, 1 cold, 2 frozen) is also the part of a past that its minutes
go to. Pasts are tuples, so that two tubes never share one that changes.
"""

WARM = 0
FROZEN = 2
THAWS = 3

NO_PAST = (0, 0, 0, 0)


def with_more(past, part, more):
    changed = list(past)
    changed[part] += more
    return tuple(changed)


def worse(past, other):
    return tuple([max(mine, theirs) for mine, theirs in zip(past, other)])
