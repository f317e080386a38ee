"""What the tests share: calls written by their names, answers cut apart, and checks of refusals."""

import unittest

from tubebook.custody import answers

FAR = 10 ** 18
MOST_CALLS = 400
MOST_NUMBERS = 16000
SCAN_PLAN_PRINT = (19, 20, 22)
MOST_SCAN_PLAN_PRINT = 60


def row(text):
    numbers = list(text.encode("ascii")) if isinstance(text, str) else list(text)
    return [len(numbers)] + numbers


def slot_name(slot, columns):
    return "ABCDEFGH"[slot // columns] + str(slot % columns + 1)


def rack(rows=2, columns=3, kind=0, label="R"):
    return [0, rows, columns, kind] + row(label)


def draw(person=1, order=1, amount=100, capacity=1000, hand=0, label="D"):
    return [1, person, order, amount, capacity, hand] + row(label)


def empty(capacity=1000, hand=0, label="E"):
    return [2, capacity, hand] + row(label)


def pour(a, b, amount=1):
    return [3, a, b, amount]


def use(t, test=0, amount=1):
    return [4, t, test, amount]


def put(t, r=0, slot=0):
    return [5, t, r, slot]


def take(t, hand=0):
    return [6, t, hand]


def arm(r, slot, s, slot2):
    return [7, r, slot, s, slot2]


def tick(n=1):
    return [8, n]


def throw(t):
    return [9, t]


def place(t):
    return [10, t]


def tube(t):
    return [11, t]


def past(t):
    return [12, t]


def fits(t, most=0, thaws=0):
    return [13, t, most, thaws]


def back(t):
    return [14, t]


def from_tubes(t):
    return [15, t]


def onto(t):
    return [16, t]


def books(d):
    return [17, d]


def then(t, minute=0):
    return [18, t, minute]


def scan(r, sheet=""):
    return [19, r] + row(sheet)


def plan(r, sheet=""):
    return [20, r] + row(sheet)


def find(label):
    return [21] + row(label)


def print_rack(r):
    return [22, r]


def entry(e):
    return [23, e]


def counts():
    return [24]


def joined(calls):
    numbers = []
    for call in calls:
        numbers.extend(call)
    return numbers


def cut(numbers):
    """The answers of a list that was given back, one list each."""
    found = []
    at = 0
    while at < len(numbers):
        end = at + 1 + numbers[at]
        found.append(numbers[at + 1:end])
        at = end
    assert at == len(numbers), "the last answer is cut short"
    return found


def run(calls):
    numbers = joined(calls)
    assert 1 <= len(calls) <= MOST_CALLS, len(calls)
    assert len(numbers) <= MOST_NUMBERS, len(numbers)
    assert len([1 for call in calls if call[0] in SCAN_PLAN_PRINT]) <= MOST_SCAN_PLAN_PRINT
    found = cut(answers(numbers))
    assert len(found) == len(calls), (len(found), len(calls))
    return found


def last(calls):
    return run(calls)[-1]


def view(calls):
    """Calls that show, behind those calls, all that can be seen (of a long list, the first of it)."""
    minute, racks, draws, tubes, entries = last(calls + [counts()])[1:]
    shown = [counts()]
    for t in range(tubes):
        shown += [place(t), tube(t), past(t)]
    shown += [books(d) for d in range(draws)] + [print_rack(r) for r in range(racks)]
    # What is kept unseen shows in what comes next.
    shown.append(tick(1))
    shown += [past(t) for t in range(tubes)]
    shown += [rack(1, 1, 0, "P"), empty(1, 0, "P"), draw(1, 1, 50000, 50000, 0, "P")]
    for t in range(tubes):
        shown += [then(t, minute), then(t, minute // 2), back(t), from_tubes(t), onto(t)]
    shown += [entry(e) for e in reversed(range(entries))]
    return shown[:MOST_CALLS - len(calls) - 1]


class Case(unittest.TestCase):
    def check(self, calls, answer):
        """The last of the calls is answered so."""
        self.assertEqual(last(calls), answer)

    def check_told(self, before, call, answer):
        """The call is answered so, and all that can be seen stays as it was."""
        self.assertEqual(last(before + [call]), answer, call)
        shown = view(before)
        self.assertEqual(run(before + [call] + shown)[len(before) + 1:], run(before + shown)[len(before):], call)

    def check_refused(self, before, call, refusal):
        """The call is refused so, and all that can be seen stays as it was."""
        self.check_told(before, call, [refusal])

    def check_range(self, before, make_call, least, most):
        """Both ends are taken; what lies just or far outside is refused with -1."""
        for value in (least, most):
            self.assertEqual(last(before + [make_call(value)])[0], 0, value)
        for value in (least - 1, most + 1, -FAR, FAR):
            self.check_refused(before, make_call(value), -1)
