"""The program's one entrance: a list of calls is read and answered, call by call."""

from tubebook.book import Book
from tubebook.ledger import books, counts, find_label, tell_entry
from tubebook.making import make_draw, make_empty, make_rack
from tubebook.moving import arm, put, take, tick
from tubebook.planning import plan
from tubebook.scanning import print_rack, scan
from tubebook.telling import fits, tell_past, tell_place, tell_tube, then
from tubebook.tracing import back, goals, sources
from tubebook.using import pour, throw, use

RACK = 0
DRAW = 1
EMPTY = 2
POUR = 3
USE = 4
PUT = 5
TAKE = 6
ARM = 7
TICK = 8
THROW = 9
PLACE = 10
TUBE = 11
PAST = 12
FITS = 13
BACK = 14
FROM = 15
ONTO = 16
BOOKS = 17
THEN = 18
SCAN = 19
PLAN = 20
FIND = 21
PRINT = 22
ENTRY = 23

# How many whole numbers stand behind each call's own number, and which calls end with a row.
HOW_MANY = (3, 5, 2, 3, 3, 3, 2, 4, 1, 1, 1, 1, 1, 3, 1, 1, 1, 1, 2, 1, 1, 0, 1, 1, 0)
WITH_ROW = (0, 1, 2, 19, 20, 21)


def answers(calls):
    book = Book()
    answered = []
    at = 0
    while at < len(calls):
        number = calls[at]
        end = at + 1 + HOW_MANY[number]
        given = calls[at + 1:end]
        row = []
        if number in WITH_ROW:
            start = end + 1
            end = start + calls[end]
            row = calls[start:end]
        answer = answer_call(book, number, given, row)
        answered.append(len(answer))
        answered.extend(answer)
        at = end
    return answered


def answer_call(book, number, given, row):
    if number in (RACK, DRAW, EMPTY):
        return answer_making(book, number, given, row)
    if number in (POUR, USE, THROW):
        return answer_using(book, number, given)
    if number in (PUT, TAKE, ARM, TICK):
        return answer_moving(book, number, given)
    if number in (PLACE, TUBE, PAST, FITS, THEN):
        return answer_telling(book, number, given)
    if number in (BACK, FROM, ONTO):
        return answer_tracing(book, number, given[0])
    if number in (SCAN, PLAN, PRINT):
        return answer_racks(book, number, given[0], row)
    return answer_books(book, number, given, row)


def answer_making(book, number, given, row):
    if number == RACK:
        return make_rack(book, given[0], given[1], given[2], row)
    if number == DRAW:
        return make_draw(book, given[0], given[1], given[2], given[3], given[4], row)
    return make_empty(book, given[0], given[1], row)


def answer_using(book, number, given):
    if number == POUR:
        return pour(book, given[0], given[1], given[2])
    if number == USE:
        return use(book, given[0], given[1], given[2])
    return throw(book, given[0])


def answer_moving(book, number, given):
    if number == PUT:
        return put(book, given[0], given[1], given[2])
    if number == TAKE:
        return take(book, given[0], given[1])
    if number == ARM:
        return arm(book, given[0], given[1], given[2], given[3])
    return tick(book, given[0])


def answer_telling(book, number, given):
    if number == PLACE:
        return tell_place(book, given[0])
    if number == TUBE:
        return tell_tube(book, given[0])
    if number == PAST:
        return tell_past(book, given[0])
    if number == FITS:
        return fits(book, given[0], given[1], given[2])
    return then(book, given[0], given[1])


def answer_tracing(book, number, t):
    if number == BACK:
        return back(book, t)
    if number == FROM:
        return sources(book, t)
    return goals(book, t)


def answer_racks(book, number, r, row):
    if number == SCAN:
        return scan(book, r, row)
    if number == PLAN:
        return plan(book, r, row)
    return print_rack(book, r)


def answer_books(book, number, given, row):
    if number == BOOKS:
        return books(book, given[0])
    if number == FIND:
        return find_label(book, row)
    if number == ENTRY:
        return tell_entry(book, given[0])
    return counts(book)
