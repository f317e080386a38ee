"""Sheets, as the calls 19 scan and 20 plan read them."""

from tests.helper import Case, draw, empty, plan, put, rack, run, scan, slot_name

EMPTY_2_BY_3 = [rack(2, 3)]
ONE_TUBE = [rack(2, 3), empty(label="X"), put(0, 0, 0)]


class SheetCase(Case):
    def check_wrong(self, before, sheet, number):
        """Both calls tell that line."""
        self.check_told(before, scan(0, sheet), [1, number])
        self.check_told(before, plan(0, sheet), [1, number])

    def check_right(self, before, sheet):
        for call in (scan(0, sheet), plan(0, sheet)):
            self.assertNotEqual(run(before + [call])[-1][0], 1, sheet)


class Lines(SheetCase):
    def test_sheets_that_tell_nothing(self):
        for sheet in ("", "\n", "\n\n\n", "#", "#\n", "# A1 X", "#A1 X\n\n##\n#", "\n#\n\n", "\n" * 1500, "#" * 1500):
            self.check_told(EMPTY_2_BY_3, scan(0, sheet), [0] * 7)
            self.check_told(EMPTY_2_BY_3, plan(0, sheet), [0, 0])
            self.check_told(ONE_TUBE, scan(0, sheet), [0, 1, 0, 0, 0, 0, 0])
            self.check_told(ONE_TUBE, plan(0, sheet), [-7])

    def test_a_line_that_begins_with_the_sign_may_have_any_bytes(self):
        for byte in range(256):
            if byte != 10:
                self.check_told(ONE_TUBE, scan(0, [35, byte, 10] + list(b"A1 X\n")), [0] * 7)

    def test_the_last_line_with_and_without_its_end(self):
        for sheet in ("A1 X", "A1 X\n", "\nA1 X", "#\nA1 X\n", "A1 X\n\n", "A1 X\n#", "A1 X\n#\n"):
            self.check_told(ONE_TUBE, scan(0, sheet), [0] * 7)
            self.check_told(ONE_TUBE, plan(0, sheet), [0, 0])

    def test_lines_in_any_order(self):
        for sheet in ("A1 X\nB3 Y", "B3 Y\nA1 X\n", "B3 Y\n\n#\nA1 X"):
            self.check_told(ONE_TUBE, scan(0, sheet), [0, 0, 0, 0, 0, 0, 2])

    def test_other_ends_of_a_line_are_not_ends(self):
        self.check_wrong(ONE_TUBE, "A1 X\r\n", 1)
        self.check_wrong(ONE_TUBE, "A1 X\rB1 X", 1)
        self.check_wrong(ONE_TUBE, [65, 49, 32, 88, 11], 1)
        self.check_wrong(ONE_TUBE, [65, 49, 32, 88, 133], 1)
        self.check_wrong(ONE_TUBE, "\r", 1)

    def test_the_number_is_counted_over_all_lines(self):
        aheads = [("", 1), ("\n", 2), ("#\n", 2), ("A1 X\n", 2), ("\n\n# x\nA1 X\n\n", 6), ("\n" * 99, 100)]
        for ahead, number in aheads:
            for wrong in ("?", "?\n", "?\n?\n", "?\nA1 X"):
                self.check_wrong(ONE_TUBE, ahead + wrong, number)

    def test_the_first_of_several_wrong_lines(self):
        self.check_wrong(ONE_TUBE, "A1 X\nB9 X\nA1 X\n", 2)
        self.check_wrong(ONE_TUBE, "A1 X\nA1 X\nB9 X\n", 2)
        self.check_wrong(ONE_TUBE, "\nA1\nA2\nA3", 2)

    def test_fifteen_hundred_bytes(self):
        self.check_told(ONE_TUBE, scan(0, "\n" * 1496 + "A1 X"), [0] * 7)
        self.check_told(ONE_TUBE, scan(0, "A1 X\n" + "#" * 1495), [0] * 7)
        self.check_wrong(ONE_TUBE, "\n" * 1499 + "A", 1500)
        self.check_wrong(ONE_TUBE, "A1 " + "X" * 1497, 1)
        self.check_wrong(ONE_TUBE, "A" * 1500, 1)
        self.check_wrong(ONE_TUBE, [0] * 1500, 1)
        self.check_wrong(ONE_TUBE, [255] * 1500, 1)
        self.check_wrong(ONE_TUBE, " " * 1500, 1)

    def test_the_longest_sheet_of_a_whole_rack(self):
        lines = [slot_name(slot, 12) + " " + "L" * 11 for slot in range(96)]
        sheet = "\n".join(lines)
        self.assertLessEqual(len(sheet), 1500)
        self.check_told([rack(8, 12)], scan(0, sheet), [0] + [2] * 96)


class Blanks(SheetCase):
    def test_not_just_one(self):
        lines = ["A1  X", "A1   X", "A1X", " A1 X", "A1 X ", "A1 X Y", "  ", " ", "A1 ", "A1", " X", " A1", "A 1 X"]
        for line in lines:
            self.check_wrong(ONE_TUBE, line, 1)
            self.check_wrong(ONE_TUBE, "\n" + line + "\n", 2)

    def test_another_sign_in_its_place(self):
        for byte in list(range(10)) + list(range(11, 32)) + list(range(33, 256)):
            self.check_wrong(ONE_TUBE, [65, 49, byte, 88], 1)

    def test_a_blank_ahead_of_the_sign(self):
        self.check_wrong(ONE_TUBE, " #", 1)
        self.check_wrong(ONE_TUBE, " # A1 X\n", 1)

    def test_the_sign_within_a_line(self):
        for line in ("A1 #", "A1 X#", "A1 X #", "A#1 X", "A1# X"):
            self.check_wrong(ONE_TUBE, line, 1)


class SlotNames(SheetCase):
    def slots_told(self, rows, columns, name):
        return run([rack(rows, columns), scan(0, name + " X")])[-1]

    def test_every_slot_of_every_rack(self):
        for rows in (1, 2, 7, 8):
            for columns in (1, 2, 9, 10, 11, 12):
                slots = rows * columns
                for slot in range(slots):
                    answer = [0] * (slots + 1)
                    answer[slot + 1] = 2
                    self.assertEqual(self.slots_told(rows, columns, slot_name(slot, columns)), answer)

    def test_a_row_outside_the_rack(self):
        for rows in range(1, 9):
            for at, letter in enumerate("ABCDEFGHIJZ"):
                self.assertEqual(self.slots_told(rows, 3, letter + "1")[0], 0 if at < rows else 1)

    def test_a_column_outside_the_rack(self):
        for columns in range(1, 13):
            for column in list(range(14)) + [20, 99, 100, 101, 110, 112, 10 ** 20]:
                answer = self.slots_told(2, columns, "B" + str(column))
                self.assertEqual(answer[0], 0 if 1 <= column <= columns else 1, (columns, column))

    def test_what_is_no_name(self):
        names = (
            "", "A", "1", "a1", "b2", "A0", "A00", "A01", "A001", "A010", "A-1", "A+1", "A1.", "AA1", "1A", "A1A",
            "A1 1", "@1", "I1", "[1", "A:", "A/", "A1a", "-", "AA", "11",
        )
        for name in names:
            self.check_wrong([rack(8, 12)], name + " X", 1)

    def test_bytes_that_are_no_digits(self):
        digits = list(b"123456789")
        for byte in range(256):
            answer = run([rack(8, 12), scan(0, [65, byte, 32, 88])])[-1]
            self.assertEqual(answer[0], 0 if byte in digits else 1, byte)
            answer = run([rack(8, 12), scan(0, [65, 49, byte, 32, 88])])[-1]
            self.assertEqual(answer[0], 0 if byte in list(b"012") else 1, byte)

    def test_bytes_that_are_no_rows(self):
        for byte in range(256):
            # Lines that mean nothing, in their own way, are those of the bytes 10 and 35.
            answer = run([rack(8, 12), scan(0, [byte, 49, 32, 88])])[-1]
            self.assertEqual(answer[0], 0 if byte in list(b"ABCDEFGH#") else 1, byte)
            if byte == 10:
                self.assertEqual(answer, [1, 2])

    def test_the_names_of_another_rack(self):
        racks = [rack(1, 2), rack(2, 1)]
        self.check_told(racks, scan(0, "A2 X"), [0, 0, 2])
        self.check_told(racks, scan(1, "A2 X"), [1, 1])
        self.check_told(racks, scan(0, "B1 X"), [1, 1])
        self.check_told(racks, scan(1, "B1 X"), [0, 0, 2])


class SheetLabels(SheetCase):
    def test_their_length(self):
        for length in range(42):
            sheet = "A1 " + "x" * length
            if 1 <= length <= 12:
                self.check_right(ONE_TUBE, sheet)
            else:
                self.check_wrong(ONE_TUBE, sheet, 1)

    def test_their_bytes(self):
        good = list(b"ABCDEFGHIJKLMNOPQRSTUVWXYZabcdefghijklmnopqrstuvwxyz0123456789-")
        for byte in range(256):
            sheet = [65, 49, 32, 88, byte, 88]
            if byte in good:
                self.check_right(ONE_TUBE, sheet)
            elif byte == 10:
                self.check_wrong(ONE_TUBE, sheet, 2)
            else:
                self.check_wrong(ONE_TUBE, sheet, 1)

    def test_a_wrong_label_of_twelve_and_thirteen_bytes(self):
        self.check_wrong(ONE_TUBE, "A1 ABCDEFGHIJK_", 1)
        self.check_wrong(ONE_TUBE, "A1 ABCDEFGHIJKLM", 1)
        self.check_right(ONE_TUBE, "A1 ABCDEFGHIJKL")


class ToldTwice(SheetCase):
    def test_the_second_is_wrong(self):
        for sheet in ("A1 X\nA1 X", "A1 X\nA1 Y\n", "A1 Y\nA1 X\nA1 X\n"):
            self.check_wrong(ONE_TUBE, sheet, 2)
        self.check_wrong(ONE_TUBE, "A1 X\n\n#A1 X\nA2 X\nA1 Z", 5)

    def test_of_every_slot(self):
        for slot in range(6):
            name = ["A1", "A2", "A3", "B1", "B2", "B3"][slot]
            self.check_wrong(EMPTY_2_BY_3, "A1 X\nA2 X\nA3 X\nB1 X\nB2 X\nB3 X\n" + name + " X", 7)

    def test_a_label_told_twice_is_not_a_wrong_line(self):
        self.check_told(ONE_TUBE, scan(0, "A1 X\nA2 X"), [0, 0, 2, 0, 0, 0, 0])

    def test_a_slot_in_a_line_that_means_nothing_is_not_told(self):
        self.check_told(ONE_TUBE, scan(0, "#A1 X\nA1 X\n#A1 X"), [0] * 7)


class WrongLines(SheetCase):
    def test_no_rack_comes_first(self):
        for call in (scan, plan):
            self.check_refused([], call(0, "?"), -1)
            self.check_refused(ONE_TUBE, call(1, "?"), -1)

    def test_a_wrong_line_comes_before_what_is_no_order(self):
        self.check_told(ONE_TUBE, plan(0, "A1 Z\n?"), [1, 2])
        self.check_told(ONE_TUBE, plan(0, "A1 X\nA2 X\n?"), [1, 3])

    def test_a_wrong_line_comes_before_a_full_rack(self):
        full = [rack(1, 2), draw(label="X"), draw(label="Y"), put(0, 0, 0), put(1, 0, 1)]
        self.check_told(full, plan(0, "A1 Y\nA2 X"), [-9])
        self.check_told(full, plan(0, "A1 Y\nA2 X\nA1 Y"), [1, 3])
