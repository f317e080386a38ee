"""The calls 19 scan and 22 print."""

from tests.helper import Case, arm, draw, empty, plan, print_rack, put, rack, row, run, scan, slot_name
from tests.helper import take, throw

LARGEST = [rack(8, 12)] + [empty(label="T" + str(t)) for t in range(60)]


def printed(text):
    return [0] + row(text)


class ScanCall(Case):
    # Slots: 0 X, 1 nothing, 2 Y, 3 nothing, 4 X, 5 nothing.
    STANDING = [
        rack(2, 3), draw(label="X"), draw(label="Y"), empty(label="X"), put(0, 0, 0), put(1, 0, 2), put(2, 0, 4),
    ]

    def test_range(self):
        self.check_range([rack(), rack(1, 1)], scan, 0, 1)
        self.check_refused([draw()], scan(0), -1)

    def test_each_number(self):
        self.check_told(self.STANDING, scan(0, "A1 X\nA3 Y\nB2 X\n"), [0, 0, 0, 0, 0, 0, 0])
        self.check_told(self.STANDING, scan(0, ""), [0, 1, 0, 1, 0, 1, 0])
        self.check_told(self.STANDING, scan(0, "A2 X\nB1 Y\nB3 Q"), [0, 1, 2, 1, 2, 1, 2])
        self.check_told(self.STANDING, scan(0, "A1 Y\nA3 X\nB2 Q"), [0, 3, 0, 3, 0, 3, 0])
        self.check_told(self.STANDING, scan(0, "B2 x\nA2 Y\nA1 X"), [0, 0, 2, 1, 0, 3, 0])

    def test_labels_that_are_alike(self):
        for label, number in (("Ab", 0), ("AB", 3), ("ab", 3), ("A", 3), ("b", 3), ("Abb", 3), ("AAb", 3), ("bA", 3)):
            self.check_told([rack(1, 1), empty(label="Ab"), put(0)], scan(0, "A1 " + label), [0, number])

    def test_a_label_of_two_lines_is_held_against_each_slot(self):
        self.check_told(self.STANDING, scan(0, "A1 X\nA3 X\nB2 X\nB3 X"), [0, 0, 0, 3, 0, 0, 2])

    def test_one_slot(self):
        self.check_told([rack(1, 1)], scan(0, ""), [0, 0])
        self.check_told([rack(1, 1)], scan(0, "A1 X"), [0, 2])

    def test_tubes_elsewhere_do_not_stand_there(self):
        calls = [rack(1, 2), rack(1, 2), draw(label="X"), draw(label="Y"), draw(label="Z")]
        calls += [put(0, 1, 0), put(1, 0, 1), throw(1)]
        self.check_told(calls, scan(0, ""), [0, 0, 0])
        self.check_told(calls, scan(0, "A1 X\nA2 Y"), [0, 2, 2])
        self.check_told(calls, scan(1, "A1 X\nA2 Y"), [0, 0, 2])

    def test_it_follows_the_moves(self):
        calls = [rack(1, 3), draw(label="X"), put(0, 0, 0), arm(0, 0, 0, 2)]
        self.check_told(calls, scan(0, "A3 X"), [0, 0, 0, 0])
        self.check_told(calls + [take(0, 0)], scan(0, "A3 X"), [0, 0, 0, 2])

    def test_the_largest_rack(self):
        calls = LARGEST + [put(t, 0, t + 36) for t in range(60)]
        # By their slots: as told, not told, not there, another label, as told, and so on.
        lines = []
        answer = [0]
        for slot in range(96):
            kind = slot % 4
            if slot < 36:
                lines += [slot_name(slot, 12) + " Q"] if kind == 2 else []
                answer.append(2 if kind == 2 else 0)
            elif kind == 1:
                answer.append(1)
            else:
                lines.append(slot_name(slot, 12) + (" Q" if kind == 3 else " T" + str(slot - 36)))
                answer.append(3 if kind == 3 else 0)
        self.check_told(calls, scan(0, "\n".join(lines)), answer)
        self.assertEqual(sorted(set(answer)), [0, 1, 2, 3])


class PrintCall(Case):
    def test_range(self):
        self.check_range([rack(), rack(1, 1)], print_rack, 0, 1)
        self.check_refused([draw()], print_rack(0), -1)

    def test_a_rack_without_tubes(self):
        self.check_told([rack(label="R"), draw()], print_rack(0), printed(""))

    def test_the_slots_in_their_order(self):
        calls = [rack(2, 3), draw(label="X"), empty(label="Yy-9"), draw(label="X")]
        calls += [put(0, 0, 5), put(1, 0, 3), put(2, 0, 0)]
        self.check_told(calls, print_rack(0), printed("A1 X\nB1 Yy-9\nB3 X\n"))

    def test_columns_of_two_digits(self):
        calls = [rack(2, 12)] + [draw(label="L")] * 4 + [put(0, 0, 8), put(1, 0, 9), put(2, 0, 11), put(3, 0, 22)]
        self.check_told(calls, print_rack(0), printed("A9 L\nA10 L\nA12 L\nB11 L\n"))

    def test_only_what_stands_in_that_rack(self):
        calls = [rack(1, 2), rack(1, 2)] + [draw(label=label) for label in "abcd"]
        calls += [put(0, 0, 0), put(1, 1, 1), put(2, 0, 1), throw(2)]
        self.check_told(calls, print_rack(0), printed("A1 a\n"))
        self.check_told(calls, print_rack(1), printed("A2 b\n"))

    def test_the_largest_rack(self):
        slots = [95 - t for t in range(60)]
        calls = LARGEST + [put(t, 0, slot) for t, slot in enumerate(slots)]
        text = "".join(slot_name(slot, 12) + " T" + str(95 - slot) + "\n" for slot in sorted(slots))
        self.check_told(calls, print_rack(0), printed(text))

    def test_the_longest_labels(self):
        calls = [rack(8, 12)] + [empty(label="ABCDEFGHIJKL")] * 60 + [put(t, 0, 36 + t) for t in range(60)]
        text = "".join(slot_name(slot, 12) + " ABCDEFGHIJKL\n" for slot in range(36, 96))
        self.check_told(calls, print_rack(0), printed(text))

    def test_a_print_is_a_sheet_of_what_stands_there(self):
        calls = LARGEST + [put(t, 0, (t * 7) % 96) for t in range(60)]
        sheet = run(calls + [print_rack(0)])[-1][2:]
        self.check_told(calls, scan(0, sheet), [0] * 97)
        self.check_told(calls, plan(0, sheet), [0, 0])
