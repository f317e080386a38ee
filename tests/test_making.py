"""The calls 0 rack, 1 draw, 2 empty."""

from tests.helper import Case, draw, empty, past, place, rack, row, run, throw, tube, use

SIX_RACKS = [rack()] * 6
SIXTY_TUBES = [draw(1, 1, 100000, 100000)] + [empty()] * 59
FULL_BOOK = [draw(1, 1, 100000, 100000)] + [use(0)] * 199

NO_LABELS = [
    "", "A" * 13, "A" * 40, " ", "a b", "_", "A.", "/", ":", "@", "[", "`", "{", ",",
    [0], [10], [127], [128], [192], [255], [65, 0], [0, 65], [65] * 11 + [32],
]
LABELS = ["A", "Z", "a", "z", "0", "9", "-", "-" * 12, "ABCxyz-01289", "AZaz09-"]


class Labels(Case):
    def test_every_maker_takes_labels(self):
        for label in LABELS:
            self.check([rack(label=label)], [0, 0])
            self.check([draw(label=label)], [0, 0, 0])
            self.check([empty(label=label)], [0, 0])

    def test_no_maker_takes_what_is_no_label(self):
        for label in NO_LABELS:
            self.check_refused([], rack(label=label), -2)
            self.check_refused([], draw(label=label), -2)
            self.check_refused([], empty(label=label), -2)

    def test_just_the_letters_the_digits_and_the_dash_are_taken(self):
        good = list(b"ABCDEFGHIJKLMNOPQRSTUVWXYZabcdefghijklmnopqrstuvwxyz0123456789-")
        for byte in range(256):
            self.check([empty(label=[byte])], [0, 0] if byte in good else [-2])

    def test_labels_of_one_to_twelve_bytes(self):
        for length in range(41):
            self.check([empty(label="x" * length)], [0, 0] if 1 <= length <= 12 else [-2])

    def test_several_may_have_the_same(self):
        self.assertEqual(run([empty(label="T"), draw(label="T"), empty(label="T")]), [[0, 0], [0, 1, 0], [0, 2]])
        self.assertEqual(run([rack(label="T"), rack(label="T")]), [[0, 0], [0, 1]])


class RackCall(Case):
    def test_racks_are_numbered_from_zero(self):
        self.assertEqual(run(SIX_RACKS), [[0, n] for n in range(6)])

    def test_ranges(self):
        self.check_range([], lambda n: rack(rows=n), 1, 8)
        self.check_range([], lambda n: rack(columns=n), 1, 12)
        self.check_range([], lambda n: rack(kind=n), 0, 2)

    def test_the_seventh_rack(self):
        self.check_refused(SIX_RACKS, rack(), -6)

    def test_a_refused_rack_takes_no_number(self):
        self.assertEqual(run([rack(0), rack(label=""), rack()]), [[-1], [-2], [0, 0]])

    def test_the_first_refusal_told(self):
        self.check_refused([], rack(rows=0, label=""), -1)
        self.check_refused(SIX_RACKS, rack(columns=13), -1)
        self.check_refused(SIX_RACKS, rack(label="a b"), -2)
        self.check_refused(SIX_RACKS, rack(kind=3, label=""), -1)


class DrawCall(Case):
    def test_a_new_draw_in_a_new_tube_in_that_hand(self):
        calls = [draw(7, 8, 30, 40, 5, "Ab-1"), tube(0), place(0), past(0)]
        self.assertEqual(run(calls), [[0, 0, 0], [0, 30, 40, 0] + row("Ab-1"), [0, 1, 5, 0], [0, 0, 0, 0, 0]])

    def test_tubes_and_draws_are_numbered_apart(self):
        self.assertEqual(run([empty(), draw(), empty(), draw()]), [[0, 0], [0, 1, 0], [0, 2], [0, 3, 1]])

    def test_one_person_and_order_may_be_drawn_from_again(self):
        self.assertEqual(run([draw(5, 5), draw(5, 5)]), [[0, 0, 0], [0, 1, 1]])

    def test_ranges(self):
        self.check_range([], lambda n: draw(person=n), 1, 1000000000)
        self.check_range([], lambda n: draw(order=n), 1, 1000000000)
        self.check_range([], lambda n: draw(amount=n, capacity=100000), 1, 100000)
        self.check_range([], lambda n: draw(amount=1, capacity=n), 1, 100000)
        self.check_range([], lambda n: draw(hand=n), 0, 9)

    def test_the_capacity_may_be_the_amount_and_not_less(self):
        self.check([draw(amount=50, capacity=50)], [0, 0, 0])
        self.check_refused([], draw(amount=50, capacity=49), -5)
        self.check_refused([], draw(amount=100000, capacity=99999), -5)

    def test_the_sixty_first_tube(self):
        self.assertEqual(run(SIXTY_TUBES)[-1], [0, 59])
        self.check_refused(SIXTY_TUBES, draw(), -6)
        self.assertEqual(run([draw()] * 61)[59:], [[0, 59, 59], [-6]])

    def test_a_thrown_tube_still_counts(self):
        self.check_refused(SIXTY_TUBES + [throw(5)], draw(), -6)

    def test_the_two_hundred_and_first_entry(self):
        self.check(FULL_BOOK[:-1] + [draw()], [0, 1, 1])
        self.check_refused(FULL_BOOK, draw(), -6)

    def test_the_first_refusal_told(self):
        self.check_refused([], draw(person=0, label=""), -1)
        self.check_refused([], draw(amount=50, capacity=49, hand=10), -1)
        self.check_refused(SIXTY_TUBES, draw(order=0), -1)
        self.check_refused(FULL_BOOK, draw(capacity=100001), -1)
        self.check_refused([], draw(amount=50, capacity=49, label="+"), -2)
        self.check_refused(SIXTY_TUBES, draw(label="+"), -2)
        self.check_refused(FULL_BOOK, draw(label="+"), -2)
        self.check_refused(SIXTY_TUBES, draw(amount=50, capacity=49), -5)
        self.check_refused(FULL_BOOK, draw(amount=50, capacity=49), -5)


class EmptyCall(Case):
    def test_a_new_tube_without_anything_in_that_hand(self):
        calls = [empty(40, 9, "x"), tube(0), place(0), past(0)]
        self.assertEqual(run(calls), [[0, 0], [0, 0, 40, -1] + row("x"), [0, 1, 9, 0], [0, 0, 0, 0, 0]])

    def test_ranges(self):
        self.check_range([], lambda n: empty(capacity=n), 1, 100000)
        self.check_range([], lambda n: empty(hand=n), 0, 9)

    def test_the_sixty_first_tube(self):
        self.check_refused(SIXTY_TUBES, empty(), -6)
        self.check_refused(SIXTY_TUBES + [throw(0)], empty(), -6)

    def test_a_full_book_is_no_hindrance(self):
        self.check(FULL_BOOK + [empty()], [0, 1])

    def test_no_entry_is_written(self):
        calls = [draw(1, 1, 1000, 1000)] + [empty()] * 50 + [use(0)] * 200
        self.assertEqual(run(calls)[-2:], [[0, 801], [-6]])

    def test_the_first_refusal_told(self):
        self.check_refused([], empty(capacity=0, label=""), -1)
        self.check_refused(SIXTY_TUBES, empty(hand=10), -1)
        self.check_refused(SIXTY_TUBES, empty(label=""), -2)
        self.check_refused(SIXTY_TUBES, empty(hand=-1, label=""), -1)
