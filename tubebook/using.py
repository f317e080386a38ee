"""The calls by which what was drawn goes on or away: pour, use, throw."""

from tubebook.book import NO_DRAW, POURED, THROWN, USED, is_amount
from tubebook.pasts import FROZEN, worse
from tubebook.places import IN_HAND, WASTE
from tubebook.refusals import NO_ROOM, OTHER_DRAW, OUT_OF_RANGE, SAME_TUBE, WRONG_AMOUNT, WRONG_PLACE

MOST_TEST = 20


def pour(book, a, b, amount):
    if not (book.has_tube(a) and book.has_tube(b) and is_amount(amount)):
        return [OUT_OF_RANGE]
    if a == b:
        return [SAME_TUBE]
    source = book.tubes[a]
    goal = book.tubes[b]
    if source.place[0] != IN_HAND or goal.place != source.place:
        return [WRONG_PLACE]
    # A tube without a draw has nothing in it, so it too has less than any amount.
    if source.amount < amount or goal.amount + amount > goal.capacity:
        return [WRONG_AMOUNT]
    if goal.draw != NO_DRAW and goal.draw != source.draw:
        return [OTHER_DRAW]
    if book.has_all_entries():
        return [NO_ROOM]
    pour_over(source, goal, amount)
    book.write(POURED, (a, b, amount))
    return [0, source.amount, goal.amount]


def pour_over(source, goal, amount):
    if goal.draw == NO_DRAW:
        goal.past = source.past
    else:
        goal.past = worse(goal.past, source.past)
    goal.draw = source.draw
    source.amount -= amount
    goal.amount += amount


def use(book, t, test, amount):
    if not (book.has_tube(t) and 0 <= test <= MOST_TEST and is_amount(amount)):
        return [OUT_OF_RANGE]
    tube = book.tubes[t]
    if tube.place == WASTE or book.kind_at(tube.place) == FROZEN:
        return [WRONG_PLACE]
    if tube.amount < amount:
        return [WRONG_AMOUNT]
    if book.has_all_entries():
        return [NO_ROOM]
    tube.amount -= amount
    book.write(USED, (t, test, amount))
    return [0, tube.amount]


def throw(book, t):
    if not book.has_tube(t):
        return [OUT_OF_RANGE]
    tube = book.tubes[t]
    if tube.place == WASTE:
        return [WRONG_PLACE]
    if book.has_all_entries():
        return [NO_ROOM]
    amount = tube.amount
    tube.amount = 0
    book.move(tube, WASTE)
    book.write(THROWN, (t, amount))
    return [0, amount]
