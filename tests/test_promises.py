"""The promises 1 and 2 over longer lists of calls, seen through the answers alone."""

import random

from tests.helper import MOST_SCAN_PLAN_PRINT, SCAN_PLAN_PRINT, Case, arm, back, books, counts, draw, empty, entry
from tests.helper import find, fits, from_tubes, onto, past, place, plan, pour, print_rack, put, rack, run, scan, take
from tests.helper import then, throw, tick, tube, use


def any_call(source, tubes):
    """A call that is often refused and often not: few racks, slots and hands, tight capacities."""
    def t():
        return source.randint(0, tubes)

    def r():
        return source.randint(0, 3)

    def slot():
        return source.randint(0, 4)

    makers = [
        lambda: rack(2, 2, source.randint(0, 2)),
        lambda: draw(source.randint(1, 3), 1, source.randint(1, 60), source.randint(20, 80), source.randint(0, 1)),
        lambda: empty(source.randint(1, 50), source.randint(0, 1)),
        lambda: use(t(), source.randint(0, 21), source.randint(0, 30)),
        lambda: tick(source.randint(0, 9)),
        lambda: throw(t()) if source.randint(0, 4) == 0 else past(t()),
    ]
    movers = [
        lambda: pour(t(), t(), source.randint(0, 30)),
        lambda: put(t(), r(), slot()),
        lambda: take(t(), source.randint(0, 1)),
        lambda: arm(r(), slot(), r(), slot()),
    ]
    # These change nothing, but a list of calls may have any of them in between.
    tellers = [
        lambda: source.choice([place, tube, past, back, from_tubes, onto])(t()),
        lambda: source.choice([counts(), books(slot()), entry(t()), find("D"), fits(t(), 9, 1), then(t(), slot())]),
        lambda: source.choice([print_rack(r()), scan(r(), any_sheet(source)), plan(r(), any_sheet(source))]),
    ]
    return source.choice(makers + movers * 3 + tellers * 2)()


def any_sheet(source):
    lines = ["A1 D", "A2 D", "B1 E", "B2 D", "C1 D", "", "#", "?"]
    return "\n".join(source.sample(lines[:-1] if source.randint(0, 2) else lines, source.randint(0, 3)))


def long_list(seed, length):
    source = random.Random(seed)
    calls = [rack(2, 2, kind) for kind in range(3)] + [draw(1, 1, 50, 60), draw(2, 1, 50, 60), empty(40)]
    sheets = 0
    while len(calls) < length:
        made = len([1 for call in calls if call[0] in (1, 2)])
        call = any_call(source, min(made, 60))
        sheets += call[0] in SCAN_PLAN_PRINT
        if sheets <= MOST_SCAN_PLAN_PRINT or call[0] not in SCAN_PLAN_PRINT:
            calls.append(call)
    return calls


class Ledger:
    """What was drawn, used and thrown away of each draw, from the answers alone."""

    def __init__(self):
        self.drawn = []
        self.used = []
        self.thrown = []
        self.draw_of = []

    def read(self, call, answer):
        if answer[0] != 0:
            return
        if call[0] == 1:
            self.draw_of.append(answer[2])
            self.drawn.append(call[1:4])
            self.used.append(0)
            self.thrown.append(0)
        elif call[0] == 2:
            self.draw_of.append(-1)
        elif call[0] == 3:
            self.draw_of[call[2]] = self.draw_of[call[1]]
        elif call[0] == 4:
            self.used[self.draw_of[call[1]]] += call[3]
        elif call[0] == 9 and answer[1] > 0:
            self.thrown[self.draw_of[call[1]]] += answer[1]


class Promises(Case):
    def check_state(self, calls):
        found = run(calls)
        ledger = Ledger()
        for call, answer in zip(calls, found):
            ledger.read(call, answer)
        tubes = len(ledger.draw_of)
        shown = [tube(t) for t in range(tubes)] + [place(t) for t in range(tubes)]
        shown += [books(d) for d in range(len(ledger.drawn))]
        shown = run(calls + shown)[len(calls):]
        self.check_books(ledger, shown[:tubes], shown[2 * tubes:])
        standing = [tuple(answer) for answer in shown[tubes:2 * tubes] if answer[1] == 0]
        self.assertEqual(len(standing), len(set(standing)), "two tubes in one slot")
        return found

    def check_books(self, ledger, tubes, told):
        held = [0] * len(ledger.drawn)
        for t, answer in enumerate(tubes):
            self.assertEqual(answer[0], 0)
            self.assertTrue(0 <= answer[1] <= answer[2], "more than its capacity, or less than nothing")
            self.assertEqual(answer[3], ledger.draw_of[t], "another draw than what came into it")
            if answer[3] == -1:
                self.assertEqual(answer[1], 0)
            else:
                held[answer[3]] += answer[1]
        for d, drawn in enumerate(ledger.drawn):
            self.assertEqual(told[d], [0] + drawn + [held[d], ledger.used[d], ledger.thrown[d]])
            self.assertEqual(held[d] + ledger.used[d] + ledger.thrown[d], drawn[2], "the book does not add up")

    def test_at_the_end_of_long_lists(self):
        seen = {}
        for seed in range(150):
            calls = long_list(seed, 270)
            for call, answer in zip(calls, self.check_state(calls)):
                seen[call[0], answer[0]] = True
        # The lists are of use only if every change and the refusals that guard the promises come about.
        for number in range(25):
            self.assertIn((number, 0), seen)
        refusals = [(3, -4), (3, -5), (3, -7), (4, -4), (4, -5), (5, -4), (5, -8), (7, -8), (9, -4), (20, -7)]
        for refused in refusals + [(19, 1), (20, 1)]:
            self.assertIn(refused, seen)

    def test_behind_every_call(self):
        for seed in range(1000, 1010):
            calls = long_list(seed, 150)
            for end in range(6, len(calls) + 1, 3):
                self.check_state(calls[:end])

    def test_the_answers_of_a_beginning_stay_as_they_are(self):
        calls = long_list(5, 200)
        whole = run(calls)
        for end in range(1, len(calls), 7):
            self.assertEqual(run(calls[:end]), whole[:end])

    def test_up_to_the_full_book(self):
        calls = [draw(1, 1, 1000, 1000), empty(1000), empty(10)]
        calls += [pour(0, 1, 2), use(1, 3, 1), pour(1, 2, 1), pour(2, 1, 1)] * 60
        self.check_state(calls)
        self.assertEqual(len([1 for answer in run(calls) if answer == [-6]]), 41)

    def test_one_slot_fought_for(self):
        calls = [rack(1, 2), rack(1, 1)] + [draw()] * 20
        calls += [put(t, r, 0) for t in range(20) for r in (0, 1)]
        calls += [arm(0, 0, 1, 0), arm(0, 0, 0, 1), arm(1, 0, 0, 1), arm(1, 0, 0, 0), put(5, 1, 0)]
        found = self.check_state(calls)
        self.assertEqual(found[-5:], [[-8], [0, 0], [-8], [0, 1], [0]])
