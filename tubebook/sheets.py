"""Sheets of a rack: rows of bytes, whose lines tell slots by their names and labels."""

from tubebook.book import how_many_slots
from tubebook.labels import is_label

LINE_END = 10
BLANK = 32

NO_LINE = 0


class Sheet:
    # told: the labels by their slots, up to the first wrong line; wrong_line: its number, or NO_LINE.
    def __init__(self, told, wrong_line):
        self.told = told
        self.wrong_line = wrong_line


def slot_name(rack, slot):
    digits = str(slot % rack.columns + 1)
    return [ord("A") + slot // rack.columns] + [ord(digit) for digit in digits]


def slots_by_name(rack):
    slots = {}
    for slot in range(how_many_slots(rack)):
        slots[tuple(slot_name(rack, slot))] = slot
    return slots


def write_line(rack, slot, label):
    return slot_name(rack, slot) + [BLANK] + label + [LINE_END]


def read_sheet(rack, numbers):
    slots = slots_by_name(rack)
    told = {}
    for number, line in enumerate(lines_of(numbers), start=1):
        if means_nothing(line):
            continue
        blank = line.index(BLANK) if BLANK in line else len(line)
        name = tuple(line[:blank])
        label = line[blank + 1:]
        if name not in slots or not is_label(label) or slots[name] in told:
            return Sheet(told, number)
        told[slots[name]] = label
    return Sheet(told, NO_LINE)


def lines_of(numbers):
    lines = []
    line = []
    for byte in numbers:
        if byte == LINE_END:
            lines.append(line)
            line = []
        else:
            line.append(byte)
    # What stands behind the last line's end is a line too; without bytes, it means nothing.
    return lines + [line]


def means_nothing(line):
    return len(line) == 0 or line[0] == ord("#")
