"""The calls 5 put, 6 take, 7 arm, 8 tick."""

from tests.helper import FAR, Case, arm, draw, empty, past, place, put, rack, run, take, throw, tick, use

# Racks of several sizes, so that a slot of one is none of another.
SIZES = [rack(1, 1), rack(8, 12), rack(2, 5)]
FULL_BOOK = [draw(1, 1, 100000, 100000)] + [use(0)] * 199


class PutCall(Case):
    def test_it_stands_in_that_slot(self):
        calls = SIZES + [draw(), empty(), put(0, 1, 95), put(1, 2, 9), place(0), place(1)]
        self.assertEqual(run(calls)[5:], [[0], [0], [0, 0, 1, 95], [0, 0, 2, 9]])

    def test_ranges(self):
        two = SIZES + [draw(), draw()]
        self.check_range(two, lambda n: put(n, 1, 0), 0, 1)
        self.check_range(two, lambda n: put(0, n, 0), 0, 2)
        self.check_range(two, lambda n: put(0, 0, n), 0, 0)
        self.check_range(two, lambda n: put(0, 1, n), 0, 95)
        self.check_range(two, lambda n: put(0, 2, n), 0, 9)

    def test_nothing_there_at_all(self):
        self.check_refused([], put(0), -1)
        self.check_refused([draw()], put(0), -1)
        self.check_refused([rack()], put(0), -1)

    def test_it_must_be_in_a_hand(self):
        self.check_refused([rack(), draw(), put(0)], put(0, 0, 1), -4)
        self.check_refused([rack(), rack(), draw(), put(0)], put(0, 1, 0), -4)
        self.check_refused([rack(), draw(), throw(0)], put(0), -4)
        for hand in range(10):
            self.check([rack(), draw(hand=hand), put(0)], [0])

    def test_something_stands_there(self):
        self.check_refused([rack(), draw(), draw(), put(1, 0, 3)], put(0, 0, 3), -8)
        self.check([rack(), rack(), draw(), draw(), put(1, 0, 3), put(0, 1, 3)], [0])
        self.check([rack(), draw(), draw(), put(1, 0, 3), put(0, 0, 2)], [0])

    def test_a_slot_is_free_again(self):
        self.check([rack(), draw(), draw(), put(1), take(1), put(0)], [0])
        self.check([rack(), draw(), draw(), put(1), arm(0, 0, 0, 1), put(0)], [0])

    def test_the_first_refusal_told(self):
        self.check_refused([rack(), draw(), throw(0)], put(0, 0, 6), -1)
        self.check_refused([rack(), draw(), put(0)], put(1, 0, 0), -1)
        self.check_refused([rack(), draw(), put(0)], put(0, 0, 0), -4)
        self.check_refused([rack(), draw(), draw(), put(0), put(1, 0, 1)], put(0, 0, 1), -4)

    def test_a_full_book_is_no_hindrance(self):
        self.check([rack()] + FULL_BOOK + [put(0)], [0])


class TakeCall(Case):
    def test_out_of_a_slot_and_out_of_a_hand(self):
        calls = [rack(), draw(), put(0), take(0, 0), place(0), take(0, 9), place(0)]
        self.assertEqual(run(calls)[3:], [[0], [0, 1, 0, 0], [0], [0, 1, 9, 0]])

    def test_ranges(self):
        self.check_range([draw(hand=5), draw(hand=5)], lambda n: take(n, 1), 0, 1)
        self.check_range([draw(hand=5)], lambda n: take(0, n), 0, 9)
        self.check_refused([], take(0), -1)

    def test_not_out_of_waste(self):
        self.check_refused([draw(), throw(0)], take(0, 0), -4)
        self.check_refused([draw(), throw(0)], take(0, 1), -4)

    def test_not_into_the_hand_that_has_it(self):
        for hand in range(10):
            self.check_refused([draw(hand=hand)], take(0, hand), -4)

    def test_a_slot_is_not_the_hand_of_its_number(self):
        self.check([rack(), rack(), draw(), put(0, 1, 0), take(0, 1)], [0])

    def test_a_hand_holds_many(self):
        calls = [draw(hand=1)] * 60 + [take(t, 2) for t in range(60)]
        self.assertEqual(run(calls)[60:], [[0]] * 60)

    def test_the_first_refusal_told(self):
        self.check_refused([draw(), throw(0)], take(0, 10), -1)
        self.check_refused([draw(), throw(0)], take(0, -FAR), -1)

    def test_a_full_book_is_no_hindrance(self):
        self.check(FULL_BOOK + [take(0, 1)], [0])


class ArmCall(Case):
    def test_which_tube_was_moved(self):
        calls = SIZES + [draw(), draw(), put(1, 1, 7), arm(1, 7, 2, 9), place(1), place(0)]
        self.assertEqual(run(calls)[6:], [[0, 1], [0, 0, 2, 9], [0, 1, 0, 0]])

    def test_within_one_rack(self):
        calls = [rack(), draw(), put(0, 0, 0), arm(0, 0, 0, 5), arm(0, 5, 0, 0), place(0)]
        self.assertEqual(run(calls)[3:], [[0, 0], [0, 0], [0, 0, 0, 0]])

    def test_ranges(self):
        standing = SIZES + [draw(), draw(), draw(), put(0, 0, 0), put(1, 1, 0), put(2, 2, 0)]
        self.check_range(standing, lambda n: arm(n, 0, 1, 5), 0, 2)
        corners = SIZES + [draw(), draw(), put(0, 1, 0), put(1, 1, 95)]
        self.check_range(corners, lambda n: arm(1, n, 2, 3), 0, 95)
        single = SIZES + [draw(), put(0, 1, 1)]
        self.check_range(single, lambda n: arm(1, 1, n, 0), 0, 2)
        self.check_range(single, lambda n: arm(1, 1, 0, n), 0, 0)
        self.check_range(single, lambda n: arm(1, 1, 2, n), 0, 9)

    def test_no_racks_at_all(self):
        self.check_refused([draw()], arm(0, 0, 0, 1), -1)

    def test_nothing_in_the_first(self):
        self.check_refused([rack(), draw()], arm(0, 0, 0, 1), -8)
        self.check_refused([rack(), draw(), put(0, 0, 2)], arm(0, 0, 0, 1), -8)
        self.check_refused([rack(), draw(), put(0), throw(0)], arm(0, 0, 0, 1), -8)
        self.check_refused([rack(), draw(), put(0), take(0)], arm(0, 0, 0, 1), -8)

    def test_something_in_the_second(self):
        self.check_refused([rack(), draw(), draw(), put(0, 0, 0), put(1, 0, 1)], arm(0, 0, 0, 1), -8)
        self.check_refused([rack(), draw(), put(0, 0, 1)], arm(0, 0, 0, 1), -8)

    def test_into_its_own_slot(self):
        self.check_refused([rack(), draw(), put(0, 0, 3)], arm(0, 3, 0, 3), -8)
        self.check_refused([rack(), draw()], arm(0, 3, 0, 3), -8)

    def test_minus_one_comes_first(self):
        self.check_refused([rack()], arm(0, 0, 0, 6), -1)
        self.check_refused([rack(), draw(), draw(), put(0, 0, 1)], arm(0, -1, 0, 1), -1)
        self.check_refused([rack(), draw(), put(0)], arm(0, 0, 1, 0), -1)

    def test_a_full_book_is_no_hindrance(self):
        self.check([rack()] + FULL_BOOK + [put(0), arm(0, 0, 0, 1)], [0, 0])


class TickCall(Case):
    def test_the_minute(self):
        self.assertEqual(run([tick(1), tick(5), tick(100000)]), [[0, 1], [0, 6], [0, 100006]])

    def test_range(self):
        self.check_range([], tick, 1, 100000)
        self.check_range([draw()], tick, 1, 100000)

    def test_the_minute_above_the_last(self):
        late = [draw()] + [tick(100000)] * 9 + [tick(99999)]
        self.check(late + [tick(1)], [0, 1000000])
        self.assertEqual(run(late + [tick(2)])[-1], [-2])
        self.check_refused(late, tick(2), -2)
        self.check_refused(late, tick(100000), -2)

    def test_at_the_last_minute(self):
        end = [draw()] + [tick(100000)] * 10
        self.check(end, [0, 1000000])
        self.check_refused(end, tick(1), -2)
        self.check(end + [tick(1), past(0)], [0, 1000000, 0, 0, 0])

    def test_the_first_refusal_told(self):
        end = [tick(100000)] * 10
        for n in (0, -1, 100001, FAR, -FAR):
            self.check_refused(end, tick(n), -1)

    def test_a_full_book_is_no_hindrance(self):
        self.check(FULL_BOOK + [tick(7)], [0, 7])
