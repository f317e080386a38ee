"""The calls by which racks, draws and tubes come: rack, draw, empty."""

from tubebook.book import DRAWN, MOST_RACKS, Draw, Rack, Tube, is_amount
from tubebook.labels import is_label
from tubebook.pasts import FROZEN, WARM
from tubebook.places import is_hand
from tubebook.refusals import NO_LABEL, NO_ROOM, OUT_OF_RANGE, WRONG_AMOUNT

MOST_ROWS = 8
MOST_COLUMNS = 12
MOST_NAME = 1000000000


def make_rack(book, rows, columns, kind, label):
    if not (1 <= rows <= MOST_ROWS and 1 <= columns <= MOST_COLUMNS and WARM <= kind <= FROZEN):
        return [OUT_OF_RANGE]
    if not is_label(label):
        return [NO_LABEL]
    if len(book.racks) >= MOST_RACKS:
        return [NO_ROOM]
    return [0, book.add_rack(Rack(label, rows, columns, kind))]


def make_draw(book, person, order, amount, capacity, hand, label):
    if not (is_name(person) and is_name(order) and is_amount(amount) and is_amount(capacity) and is_hand(hand)):
        return [OUT_OF_RANGE]
    if not is_label(label):
        return [NO_LABEL]
    if capacity < amount:
        return [WRONG_AMOUNT]
    if book.has_all_tubes() or book.has_all_entries():
        return [NO_ROOM]
    d = book.add_draw(Draw(person, order, amount, book.minute))
    tube = Tube(label, capacity, hand, book.minute)
    tube.amount = amount
    tube.draw = d
    t = book.add_tube(tube)
    book.write(DRAWN, (d, t, amount))
    return [0, t, d]


def is_name(number):
    return 1 <= number <= MOST_NAME


def make_empty(book, capacity, hand, label):
    if not (is_amount(capacity) and is_hand(hand)):
        return [OUT_OF_RANGE]
    if not is_label(label):
        return [NO_LABEL]
    if book.has_all_tubes():
        return [NO_ROOM]
    return [0, book.add_tube(Tube(label, capacity, hand, book.minute))]
