"""The calls by which tubes change their places and minutes pass: put, take, arm, tick."""

from tubebook.book import NO_TUBE
from tubebook.places import IN_HAND, WASTE, hand_place, is_hand, slot_place
from tubebook.refusals import OUT_OF_RANGE, TOO_LATE, WRONG_PLACE, WRONG_SLOT

MOST_MINUTE = 1000000
LONGEST_TICK = 100000


def put(book, t, r, slot):
    if not (book.has_tube(t) and book.has_slot(r, slot)):
        return [OUT_OF_RANGE]
    tube = book.tubes[t]
    if tube.place[0] != IN_HAND:
        return [WRONG_PLACE]
    if book.tube_in(r, slot) != NO_TUBE:
        return [WRONG_SLOT]
    book.move(tube, slot_place(r, slot))
    return [0]


def take(book, t, hand):
    if not (book.has_tube(t) and is_hand(hand)):
        return [OUT_OF_RANGE]
    tube = book.tubes[t]
    if tube.place == WASTE or tube.place == hand_place(hand):
        return [WRONG_PLACE]
    book.move(tube, hand_place(hand))
    return [0]


def arm(book, r, slot, s, slot2):
    if not (book.has_slot(r, slot) and book.has_slot(s, slot2)):
        return [OUT_OF_RANGE]
    t = book.tube_in(r, slot)
    if t == NO_TUBE or book.tube_in(s, slot2) != NO_TUBE:
        return [WRONG_SLOT]
    book.move(book.tubes[t], slot_place(s, slot2))
    return [0, t]


def tick(book, n):
    if not 1 <= n <= LONGEST_TICK:
        return [OUT_OF_RANGE]
    if book.minute + n > MOST_MINUTE:
        return [TOO_LATE]
    book.let_pass(n)
    return [0, book.minute]
