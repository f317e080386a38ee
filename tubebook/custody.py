"""The program's one entrance: a list of calls is read and answered, call by call."""

from tubebook.book import Book
from tubebook.making import make_draw, make_empty, make_rack
from tubebook.moving import arm, put, take, tick
from tubebook.telling import tell_past, tell_place, tell_tube
from tubebook.using import pour, throw, use

RACK = 0
DRAW = 1
POUR = 3
USE = 4
PUT = 5
TAKE = 6
ARM = 7
TICK = 8
THROW = 9
PLACE = 10
TUBE = 11
PAST = 12

# How many whole numbers stand behind each call's own number, and which calls end with a row.
HOW_MANY = (3, 5, 2, 3, 3, 3, 2, 4, 1, 1, 1, 1, 1)
WITH_ROW = (0, 1, 2)


def answers(calls):
    book = Book()
    answered = []
    at = 0
    while at < len(calls):
        number = calls[at]
        if number > PAST:
            raise NotImplementedError(f"there is no call {number} yet")
        end = at + 1 + HOW_MANY[number]
        given = calls[at + 1:end]
        row = []
        if number in WITH_ROW:
            start = end + 1
            end = start + calls[end]
            row = calls[start:end]
        answer = answer_call(book, number, given, row)
        answered.append(len(answer))
        answered.extend(answer)
        at = end
    return answered


def answer_call(book, number, given, row):
    if number in WITH_ROW:
        return answer_making(book, number, given, row)
    if number in (POUR, USE, THROW):
        return answer_using(book, number, given)
    if number in (PUT, TAKE, ARM, TICK):
        return answer_moving(book, number, given)
    return answer_telling(book, number, given[0])


def answer_making(book, number, given, row):
    if number == RACK:
        return make_rack(book, given[0], given[1], given[2], row)
    if number == DRAW:
        return make_draw(book, given[0], given[1], given[2], given[3], given[4], row)
    return make_empty(book, given[0], given[1], row)


def answer_using(book, number, given):
    if number == POUR:
        return pour(book, given[0], given[1], given[2])
    if number == USE:
        return use(book, given[0], given[1], given[2])
    return throw(book, given[0])


def answer_moving(book, number, given):
    if number == PUT:
        return put(book, given[0], given[1], given[2])
    if number == TAKE:
        return take(book, given[0], given[1])
    if number == ARM:
        return arm(book, given[0], given[1], given[2], given[3])
    return tick(book, given[0])


def answer_telling(book, number, t):
    if number == PLACE:
        return tell_place(book, t)
    if number == TUBE:
        return tell_tube(book, t)
    return tell_past(book, t)
