"""The calls 3 pour, 4 use, 9 throw."""

from tests.helper import FAR, Case, draw, empty, past, place, pour, put, rack, row, run, take, throw, tick, tube, use

BIG = draw(1, 1, 100000, 100000)
# A draw and an empty tube in one hand, and a book that is full.
FULL_BOOK = [BIG, empty()] + [use(0)] * 199
COLD = rack(kind=1, label="C")
FROZEN = rack(kind=2, label="F")


class PourCall(Case):
    def test_what_both_then_have(self):
        calls = [draw(amount=100), empty(50), pour(0, 1, 30), pour(0, 1, 20), pour(1, 0, 50), tube(0), tube(1)]
        self.assertEqual(run(calls)[2:], [
            [0, 70, 30], [0, 50, 50], [0, 0, 100],
            [0, 100, 1000, 0] + row("D"), [0, 0, 50, 0] + row("E"),
        ])

    def test_the_goal_gets_the_draw(self):
        calls = [draw(), draw(), empty(), pour(1, 2, 5), tube(2)]
        self.check(calls, [0, 5, 1000, 1] + row("E"))

    def test_neither_tube_moves(self):
        calls = [draw(hand=4), empty(hand=4), pour(0, 1, 5), place(0), place(1)]
        self.assertEqual(run(calls)[3:], [[0, 1, 4, 0], [0, 1, 4, 0]])

    def test_ranges(self):
        three = [draw(), empty(), empty(), pour(0, 1, 9), pour(0, 2, 9)]
        self.check_range(three, lambda n: pour(n, 1), 0, 2)
        self.check_range(three, lambda n: pour(1, n), 0, 2)
        self.check_range([BIG, empty(100000)], lambda n: pour(0, 1, n), 1, 100000)

    def test_no_tubes_at_all(self):
        self.check_refused([], pour(0, 1), -1)

    def test_one_tube_into_itself(self):
        self.check_refused([draw()], pour(0, 0), -3)
        self.check_refused([empty()], pour(0, 0), -3)

    def test_both_must_be_in_one_hand(self):
        self.check([draw(hand=9), empty(hand=9), pour(0, 1)], [0, 99, 1])
        self.check_refused([draw(hand=1), empty(hand=2)], pour(0, 1), -4)
        self.check_refused([rack(), draw(), empty(), put(0)], pour(0, 1), -4)
        self.check_refused([rack(), draw(), empty(), put(1)], pour(0, 1), -4)
        self.check_refused([rack(), draw(), empty(), put(0, 0, 0), put(1, 0, 1)], pour(0, 1), -4)
        self.check_refused([draw(), empty(), throw(0)], pour(0, 1), -4)
        self.check_refused([draw(), empty(), throw(1)], pour(0, 1), -4)
        self.check_refused([draw(), empty(), throw(0), throw(1)], pour(0, 1), -4)

    def test_a_hand_and_a_rack_of_the_same_number_are_not_one_place(self):
        self.check_refused([rack(), draw(hand=0), empty(hand=0), put(1, 0, 0)], pour(0, 1), -4)

    def test_the_source_must_have_so_much(self):
        self.check([draw(amount=5), empty(), pour(0, 1, 5)], [0, 0, 5])
        self.check_refused([draw(amount=5), empty()], pour(0, 1, 6), -5)
        self.check_refused([draw(amount=5), empty(), pour(0, 1, 5)], pour(0, 1), -5)

    def test_a_source_without_a_draw(self):
        self.check_refused([empty(), empty()], pour(0, 1), -5)
        self.check_refused([empty(), draw()], pour(0, 1), -5)

    def test_the_goal_must_have_room(self):
        self.check([draw(amount=10), empty(5), pour(0, 1, 5)], [0, 5, 5])
        self.check_refused([draw(amount=10), empty(5)], pour(0, 1, 6), -5)
        self.check_refused([draw(amount=10), empty(5), pour(0, 1, 3)], pour(0, 1, 3), -5)

    def test_another_draw(self):
        self.check_refused([draw(), draw()], pour(0, 1), -7)
        self.check_refused([draw(5, 5), draw(5, 5)], pour(1, 0), -7)

    def test_an_empty_tube_keeps_its_draw(self):
        emptied = [draw(amount=5), draw(amount=5), use(1, 0, 5)]
        self.check_refused(emptied, pour(0, 1), -7)
        self.check_refused([draw(), draw(), empty(), pour(0, 2, 4), pour(2, 0, 4)], pour(1, 2), -7)
        self.check([draw(), empty(), pour(0, 1, 4), pour(1, 0, 4), pour(0, 1, 2)], [0, 98, 2])

    def test_the_two_hundred_and_first_entry(self):
        self.check(FULL_BOOK[:-1] + [pour(0, 1)], [0, 99801, 1])
        self.check_refused(FULL_BOOK, pour(0, 1), -6)

    def test_a_pour_is_an_entry(self):
        calls = [draw(amount=1000), empty()] + [pour(0, 1)] * 200
        self.assertEqual(run(calls)[-2:], [[0, 801, 199], [-6]])

    def test_minus_one_comes_first(self):
        self.check_refused([draw()], pour(0, 0, 0), -1)
        self.check_refused([draw()], pour(1, 1), -1)
        self.check_refused([draw(hand=1), empty(hand=2)], pour(0, 1, 100001), -1)
        self.check_refused([draw(), empty(5)], pour(0, 1, FAR), -1)
        self.check_refused([draw(), draw()], pour(0, 1, 0), -1)
        self.check_refused(FULL_BOOK, pour(0, 2), -1)

    def test_the_first_refusal_told(self):
        self.check_refused([rack(), draw(), put(0)], pour(0, 0), -3)
        self.check_refused([draw(amount=5)], pour(0, 0, 6), -3)
        self.check_refused(FULL_BOOK, pour(0, 0), -3)
        self.check_refused([draw(amount=5, hand=1), empty(hand=2)], pour(0, 1, 6), -4)
        self.check_refused([draw(hand=1), draw(hand=2)], pour(0, 1), -4)
        self.check_refused(FULL_BOOK + [take(1, 3)], pour(0, 1), -4)
        self.check_refused([draw(amount=5), draw()], pour(0, 1, 6), -5)
        self.check_refused([draw(), draw(amount=9, capacity=9)], pour(0, 1), -5)
        self.check_refused(FULL_BOOK, pour(0, 1, 1001), -5)
        self.check_refused([draw()] + FULL_BOOK[:1] + [use(1)] * 198, pour(0, 1), -7)


class UseCall(Case):
    def test_what_it_then_has(self):
        calls = [draw(amount=10), use(0, 3, 4), use(0, 3, 6), tube(0)]
        self.assertEqual(run(calls)[1:], [[0, 6], [0, 0], [0, 0, 1000, 0] + row("D")])

    def test_ranges(self):
        self.check_range([draw(), draw()], lambda n: use(n), 0, 1)
        self.check_range([draw()], lambda n: use(0, n), 0, 20)
        self.check_range([BIG], lambda n: use(0, 0, n), 1, 100000)

    def test_no_tubes_at_all(self):
        self.check_refused([], use(0), -1)

    def test_in_hands_and_in_warm_and_cold_racks(self):
        self.check([draw(hand=9), use(0)], [0, 99])
        self.check([rack(), draw(), put(0), use(0)], [0, 99])
        self.check([COLD, draw(), put(0), use(0)], [0, 99])

    def test_not_in_waste_nor_in_a_frozen_rack(self):
        self.check_refused([draw(), throw(0)], use(0), -4)
        self.check_refused([FROZEN, draw(), put(0)], use(0), -4)
        self.check_refused([rack(), FROZEN, draw(), put(0, 1, 5)], use(0), -4)
        self.check([FROZEN, draw(), put(0), take(0), use(0)], [0, 99])

    def test_it_must_have_so_much(self):
        self.check_refused([draw(amount=5)], use(0, 0, 6), -5)
        self.check_refused([draw(amount=5), use(0, 0, 5)], use(0), -5)
        self.check_refused([empty()], use(0), -5)

    def test_it_stays_where_it_is_and_keeps_its_past(self):
        calls = [rack(), draw(), put(0, 0, 4), tick(3), use(0), place(0), past(0)]
        self.assertEqual(run(calls)[-2:], [[0, 0, 0, 4], [0, 3, 0, 0, 0]])

    def test_the_two_hundred_and_first_entry(self):
        self.assertEqual(run(FULL_BOOK)[-1], [0, 99801])
        self.check_refused(FULL_BOOK, use(0), -6)

    def test_the_first_refusal_told(self):
        self.check_refused([draw(), throw(0)], use(0, 21), -1)
        self.check_refused([draw(amount=5)], use(0, -1, 6), -1)
        self.check_refused([draw(amount=5)], use(0, 0, FAR), -1)
        self.check_refused(FULL_BOOK, use(2), -1)
        self.check_refused([draw(amount=5), throw(0)], use(0), -4)
        self.check_refused([FROZEN, draw(amount=5), put(0)], use(0, 0, 6), -4)
        self.check_refused([FROZEN] + FULL_BOOK + [put(0)], use(0), -4)
        self.check_refused(FULL_BOOK, use(1), -5)


class ThrowCall(Case):
    def test_how_much_it_had(self):
        calls = [draw(amount=10), use(0, 0, 4), throw(0), tube(0), place(0)]
        self.assertEqual(run(calls)[2:], [[0, 6], [0, 0, 1000, 0] + row("D"), [0, 2, 0, 0]])

    def test_out_of_every_place(self):
        self.check([draw(hand=7), throw(0), place(0)], [0, 2, 0, 0])
        for kind in range(3):
            calls = [rack(kind=kind), draw(amount=10), put(0, 0, 5), throw(0), place(0)]
            self.assertEqual(run(calls)[3:], [[0, 10], [0, 2, 0, 0]])

    def test_a_tube_without_anything(self):
        calls = [empty(), throw(0), place(0), tube(0)]
        self.assertEqual(run(calls)[1:], [[0, 0], [0, 2, 0, 0], [0, 0, 1000, -1] + row("E")])

    def test_its_slot_is_empty_then(self):
        self.check([rack(), draw(), put(0), throw(0), draw(), put(1)], [0])

    def test_several_in_waste(self):
        self.assertEqual(run([draw(), draw(), throw(1), throw(0)])[2:], [[0, 100], [0, 100]])

    def test_range(self):
        self.check_range([draw(), draw()], throw, 0, 1)
        self.check_refused([], throw(0), -1)

    def test_in_waste_already(self):
        self.check_refused([draw(), throw(0)], throw(0), -4)
        self.check_refused([empty(), throw(0)], throw(0), -4)

    def test_the_two_hundred_and_first_entry(self):
        self.check(FULL_BOOK[:-1] + [throw(0)], [0, 99802])
        self.check_refused(FULL_BOOK, throw(0), -6)
        self.check_refused(FULL_BOOK, throw(1), -6)

    def test_a_throw_of_nothing_is_an_entry(self):
        self.check_refused(FULL_BOOK[:-1] + [throw(1)], use(0), -6)

    def test_the_first_refusal_told(self):
        self.check_refused(FULL_BOOK, throw(2), -1)
        self.check_refused(FULL_BOOK[:-1] + [throw(1)], throw(1), -4)
