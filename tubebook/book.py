"""What there is: racks, draws, tubes and the entries of the book, all of one list of calls."""

from tubebook.pasts import FROZEN, NO_PAST, THAWS, WARM, with_more
from tubebook.places import IN_SLOT, WASTE, hand_place, slot_place

MOST_RACKS = 6
MOST_TUBES = 60
MOST_ENTRIES = 200
MOST_AMOUNT = 100000

DRAWN = 0
POURED = 1
USED = 2
THROWN = 3

NO_DRAW = -1
NO_TUBE = -1


class Rack:
    def __init__(self, label, rows, columns, kind):
        self.label = label
        self.rows = rows
        self.columns = columns
        self.kind = kind


class Draw:
    def __init__(self, person, order, amount, minute):
        self.person = person
        self.order = order
        self.amount = amount
        self.minute = minute


class Tube:
    def __init__(self, label, capacity, hand, minute):
        self.label = label
        self.capacity = capacity
        self.amount = 0
        self.draw = NO_DRAW
        self.place = hand_place(hand)
        # Every place that it came to, each with its minute, since its earlier places are asked for too.
        self.stays = [(minute, self.place)]
        self.past = NO_PAST


class Book:
    def __init__(self):
        self.minute = 0
        self.racks = []
        self.draws = []
        self.tubes = []
        self.entries = []

    def has_tube(self, t):
        return 0 <= t < len(self.tubes)

    def has_rack(self, r):
        return 0 <= r < len(self.racks)

    def has_draw(self, d):
        return 0 <= d < len(self.draws)

    def has_entry(self, e):
        return 0 <= e < len(self.entries)

    def has_slot(self, r, slot):
        return self.has_rack(r) and 0 <= slot < how_many_slots(self.racks[r])

    def has_all_tubes(self):
        return len(self.tubes) >= MOST_TUBES

    def has_all_entries(self):
        return len(self.entries) >= MOST_ENTRIES

    def tube_in(self, r, slot):
        place = slot_place(r, slot)
        for t, tube in enumerate(self.tubes):
            if tube.place == place:
                return t
        return NO_TUBE

    def tubes_by_slot(self, r):
        stands = [NO_TUBE] * how_many_slots(self.racks[r])
        for t, tube in enumerate(self.tubes):
            if tube.place[0] == IN_SLOT and tube.place[1] == r:
                stands[tube.place[2]] = t
        return stands

    def kind_at(self, place):
        if place[0] == IN_SLOT:
            return self.racks[place[1]].kind
        return WARM

    def move(self, tube, place):
        if self.kind_at(tube.place) == FROZEN and self.kind_at(place) != FROZEN:
            tube.past = with_more(tube.past, THAWS, 1)
        tube.place = place
        tube.stays.append((self.minute, place))

    def let_pass(self, minutes):
        self.minute += minutes
        for tube in self.tubes:
            if tube.place != WASTE:
                tube.past = with_more(tube.past, self.kind_at(tube.place), minutes)

    def add_tube(self, tube):
        self.tubes.append(tube)
        return len(self.tubes) - 1

    def add_draw(self, draw):
        self.draws.append(draw)
        return len(self.draws) - 1

    def add_rack(self, rack):
        self.racks.append(rack)
        return len(self.racks) - 1

    def write(self, kind, numbers):
        self.entries.append((self.minute, kind) + numbers)


def how_many_slots(rack):
    return rack.rows * rack.columns


def is_amount(amount):
    return 1 <= amount <= MOST_AMOUNT
