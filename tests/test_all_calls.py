"""Long lists of all calls, whose answers are held against a second reading of the document.

The second reading takes the calls that change something as they were answered, and answers
the calls 13 to 24 in its own way: by texts, sets and plain searches.
"""

import random
import re

from tests.helper import Case, arm, back, books, counts, draw, empty, entry, find, fits, from_tubes, onto, past, place
from tests.helper import plan, pour, print_rack, put, rack, run, scan, slot_name, take, then, throw, tick, tube, use

WASTE = [2, 0, 0]


class Reading:
    def __init__(self):
        self.racks = []
        self.draws = []
        self.labels = []
        self.draw_of = []
        self.amounts = []
        self.entries = []
        # For each minute that has gone by, and for the one that is now, where each tube was at its end.
        self.places = [{}]
        self.past = {}

    def where(self):
        return self.places[-1]

    def change(self, call, answer):
        number, given = call[0], call[1:]
        if number == 0:
            self.racks.append((given[0], given[1]))
        elif number == 1:
            self.draws.append(given[:3])
            self.come(call[7:], [1, given[4], 0], answer[2], given[2])
            self.write(0, [answer[2], answer[1], given[2]])
        elif number == 2:
            self.come(call[4:], [1, given[1], 0], None, 0)
        elif number == 3:
            self.draw_of[given[1]] = self.draw_of[given[0]]
            self.amounts[given[0]], self.amounts[given[1]] = answer[1:]
            self.write(1, given)
        elif number == 4:
            self.amounts[given[0]] = answer[1]
            self.write(2, given)
        elif number == 9:
            self.amounts[given[0]] = 0
            self.where()[given[0]] = WASTE
            self.write(3, [given[0], answer[1]])
        else:
            self.move(number, given, answer)

    def come(self, label, where, draw_number, amount):
        self.where()[len(self.labels)] = where
        self.labels.append(bytes(label).decode("ascii"))
        self.draw_of.append(draw_number)
        self.amounts.append(amount)

    def write(self, kind, numbers):
        self.entries.append([len(self.places) - 1, kind] + numbers)

    def move(self, number, given, answer):
        if number == 5:
            self.where()[given[0]] = [0, given[1], given[2]]
        elif number == 6:
            self.where()[given[0]] = [1, given[1], 0]
        elif number == 7:
            self.where()[answer[1]] = [0, given[2], given[3]]
        elif number == 8:
            for minute in range(given[0]):
                self.places.append(dict(self.where()))

    def rows_back(self, t):
        into = [e for e, it in enumerate(self.entries) if it[1] in (0, 1) and it[3] == t]
        if not into:
            return []
        first = self.entries[into[0]]
        return into[:1] + (self.rows_back(first[2]) if first[1] == 1 else [])

    def closed(self, t, start, end):
        members = {t}
        while True:
            more = members | {it[end] for it in self.entries if it[1] == 1 and it[start] in members}
            if more == members:
                return sorted(members)
            members = more

    def stands(self, r):
        """The tubes in the rack, by the names of their slots, in the order of the slots."""
        rows, columns = self.racks[r]
        found = {}
        for slot in range(rows * columns):
            for t, where in self.where().items():
                if where == [0, r, slot]:
                    found[self.slot_name(r, slot)] = t
        return found

    def slot_name(self, r, slot):
        return slot_name(slot, self.racks[r][1])

    def names(self, r):
        return [self.slot_name(r, slot) for slot in range(self.racks[r][0] * self.racks[r][1])]

    def told(self, r, sheet):
        """The labels by the names of their slots, or the first wrong line's number."""
        labels = {}
        for number, line in enumerate(bytes(sheet).decode("latin-1").split("\n"), start=1):
            if line == "" or line.startswith("#"):
                continue
            match = re.fullmatch(r"([A-H][1-9][0-9]?) ([A-Za-z0-9-]{1,12})", line)
            if not match or match[1] not in self.names(r) or match[1] in labels:
                return number
            labels[match[1]] = match[2]
        return labels

    def expect_scan(self, r, sheet):
        labels = self.told(r, sheet)
        if isinstance(labels, int):
            return [1, labels]
        stands = {name: self.labels[t] for name, t in self.stands(r).items()}
        answer = [0]
        for name in self.names(r):
            if labels.get(name) == stands.get(name):
                answer.append(0)
            elif name not in labels:
                answer.append(1)
            else:
                answer.append(3 if name in stands else 2)
        return answer

    def expect_plan(self, r, sheet):
        labels = self.told(r, sheet)
        if isinstance(labels, int):
            return [1, labels]
        at = {self.labels[t]: name for name, t in self.stands(r).items()}
        if sorted(labels.values()) != sorted(at) or len(at) != len(self.stands(r)):
            return [-7]
        goal = {label: name for name, label in labels.items()}
        names = self.names(r)
        moves = []
        while at != goal:
            free = [name for name in names if name not in at.values()]
            due = [name for name in free if name in labels]
            wrong = [label for label in at if at[label] != goal[label]]
            wrong.sort(key=lambda label: names.index(at[label]))
            if not free:
                return [-9]
            label, end = (labels[due[0]], due[0]) if due else (wrong[0], free[0])
            moves += [names.index(at[label]), names.index(end)]
            at[label] = end
        return [0, len(moves) // 2] + moves

    def expect_of_tube(self, number, given):
        t = given[0]
        if not 0 <= t < len(self.labels):
            return [-1]
        if number == 13:
            if min(given[1:]) < 0 or max(given[1:]) > 1000000:
                return [-1]
            warm, cold, frozen, thaws = self.past[t]
            good = self.where()[t] != WASTE and self.amounts[t] and warm <= given[1] and thaws <= given[2]
            return [0, 1 if good else 0]
        if number == 18:
            if not 0 <= given[1] < len(self.places):
                return [-1]
            where = self.places[given[1]].get(t)
            return [-8] if where is None else [0] + where
        found = [self.rows_back(t), self.closed(t, 3, 2), self.closed(t, 2, 3)][number - 14]
        return [0, len(found)] + found

    def expect_books(self, d):
        if not 0 <= d < len(self.draws):
            return [-1]
        mine = [t for t in range(len(self.labels)) if self.draw_of[t] == d]
        held = sum(self.amounts[t] for t in mine)
        used = sum(it[4] for it in self.entries if it[1] == 2 and it[2] in mine)
        return [0] + self.draws[d] + [held, used, self.draws[d][2] - held - used]

    def expect(self, call):
        number, given = call[0], call[1:]
        if number in (13, 14, 15, 16, 18):
            return self.expect_of_tube(number, given)
        if number == 17:
            return self.expect_books(given[0])
        if number == 21:
            found = [t for t, label in enumerate(self.labels) if label.encode("ascii") == bytes(given[1:])]
            return [0, len(found)] + found
        if number == 23:
            return [0] + self.entries[given[0]] if 0 <= given[0] < len(self.entries) else [-1]
        if number == 24:
            held = [self.racks, self.draws, self.labels, self.entries]
            return [0, len(self.places) - 1] + [len(each) for each in held]
        if not 0 <= given[0] < len(self.racks):
            return [-1]
        if number == 22:
            lines = [name + " " + self.labels[t] + "\n" for name, t in self.stands(given[0]).items()]
            text = list("".join(lines).encode("ascii"))
            return [0, len(text)] + text
        return (self.expect_scan if number == 19 else self.expect_plan)(given[0], given[2:])


class Maker:
    """Makes lists of calls, of which many are answered: it looks at the answers of what it has made so far."""

    def __init__(self, seed):
        self.source = random.Random(seed)
        self.calls = [rack(1, 2, 0), rack(1, 3, 1), rack(2, 5, 2), draw(1, 2, 90, 100, 0, "a"), empty(50, 0, "b")]
        self.sheets = 0

    def pick(self, least, most):
        return self.source.randint(least, most)

    def label(self):
        return self.source.choice("abcdefghijklmnopqrstuvwxyz") + self.source.choice(["", "", "-1"])

    def change(self, reading):
        def t():
            return self.pick(0, len(reading.labels))

        def slot(r):
            return self.pick(0, len(reading.names(r)))

        hand = self.pick(0, 1)
        size = self.pick(1, 60)
        return self.source.choice([
            lambda: [draw(self.pick(1, 9), self.pick(1, 9), size, size + self.pick(0, 50), hand, self.label())],
            lambda: [empty(size, hand, self.label()) for n in range(2)],
            lambda: [self.pour(reading) for n in range(4)],
            lambda: [self.pour(reading) for n in range(2)] + [pour(t(), t(), self.pick(0, 20))],
            lambda: [use(t(), self.pick(0, 20), self.pick(1, 9)) for n in range(2)],
            lambda: [put(t(), r, slot(r)) for r in range(3)] + [put(t(), 0, n) for n in range(2)],
            lambda: [take(t(), hand) for n in range(3)],
            lambda: [arm(r, slot(r), s, slot(s)) for r in range(3) for s in range(2)],
            lambda: [tick(self.pick(1, 5))],
            lambda: [throw(t())] if self.pick(0, 2) == 0 else [],
            lambda: [rack(1, 2, self.pick(0, 2))] if self.pick(0, 9) == 0 else [],
        ])()

    def pour(self, reading):
        """Such a pour as can be made, if nothing comes in between; else any."""
        where = reading.where()
        pairs = [
            (a, b) for a in where for b in where
            if a != b and where[a][0] == 1 and where[a] == where[b] and reading.amounts[a]
            and reading.draw_of[b] in (None, reading.draw_of[a])
        ]
        a, b = self.source.choice(pairs or [(0, 1)])
        return pour(a, b, self.pick(1, max(1, reading.amounts[a] // 2)))

    def tell(self, reading):
        t = self.pick(-1 if self.pick(0, 9) == 0 else 0, len(reading.labels))
        minute = self.pick(0, len(reading.places))
        return self.source.choice([
            lambda: [place(t), tube(t), past(t), fits(t, self.pick(0, 30), self.pick(0, 2))],
            lambda: [back(t), from_tubes(t), onto(t)],
            lambda: [then(t, minute), then(t, max(0, minute - 1))],
            lambda: [books(self.pick(0, len(reading.draws))), entry(self.pick(0, len(reading.entries))), counts()],
            lambda: [find(self.label())],
            lambda: self.tell_of_racks(reading),
            lambda: self.tell_of_racks(reading),
        ])()

    def tell_of_racks(self, reading):
        if self.sheets > 54:
            return []
        self.sheets += 5
        r = self.pick(0, len(reading.racks) - 1)
        sheets = [self.sheet(reading, r) for n in range(2)]
        return [print_rack(r)] + [scan(r, sheet) for sheet in sheets] + [plan(r, sheet) for sheet in sheets]

    def sheet(self, reading, r):
        names = self.source.sample(reading.names(r), len(reading.names(r)))
        stands = reading.stands(r)
        if self.pick(0, 1):
            names = list(stands)
            self.source.shuffle(names)
        lines = [name + " " + reading.labels[t] for name, t in zip(names, stands.values())]
        if lines and self.pick(0, 4) == 0:
            lines.pop(self.pick(0, len(lines) - 1))
        extra = {1: "C1 x", 2: "A1 x", 3: "a1 x", 4: "A01 x", 5: "A2  x", 6: "A3 x y", 7: "A2 q"}.get(self.pick(0, 30))
        for line in [extra, self.source.choice(["", "#", None, None])]:
            if line is not None:
                lines.insert(self.pick(0, len(lines)), line)
        return "\n".join(lines) + self.source.choice(["", "\n"])


class AllCalls(Case):
    def hold(self, calls, seen=None):
        """The reading behind those calls; each answer of the calls 13 to 24 is held against it."""
        reading = Reading()
        for call, answer in zip(calls, run(calls)):
            if call[0] >= 13:
                self.assertEqual(answer, reading.expect(call), call)
            elif call[0] == 12 and answer[0] == 0:
                reading.past[call[1]] = answer[1:]
            elif call[0] < 10 and answer[0] == 0:
                reading.change(call, answer)
            if seen is not None:
                seen[call[0], answer[0]] = seen.get((call[0], answer[0]), 0) + 1
        self.check_promises(reading)
        return reading

    def check_promises(self, reading):
        for d, drawn in enumerate(reading.draws):
            mine = [t for t in range(len(reading.labels)) if reading.draw_of[t] == d]
            gone = sum(it[-1] for it in reading.entries if it[1] in (2, 3) and it[2] in mine)
            self.assertEqual(sum(reading.amounts[t] for t in mine) + gone, drawn[2])
        standing = [tuple(where) for where in reading.where().values() if where[0] == 0]
        self.assertEqual(len(standing), len(set(standing)))

    def test_long_lists(self):
        seen = {}
        for seed in range(60):
            maker = Maker(seed)
            while len(maker.calls) < 380:
                reading = self.hold(maker.calls)
                for n in range(6):
                    maker.calls += maker.change(reading)
                reading = self.hold(maker.calls[:400])
                for n in range(4):
                    maker.calls += maker.tell(reading)
            self.hold(maker.calls[:400], seen)
        for number in range(25):
            self.assertGreater(seen.get((number, 0), 0), 20, number)
        for refused in ((18, -8), (18, -1), (19, 1), (20, 1), (20, -7), (20, -9)):
            self.assertGreater(seen.get(refused, 0), 5, refused)
