"""The calls 13 fits and 18 then."""

from tests.helper import FAR, Case, arm, draw, empty, fits, pour, put, rack, run, take, then, throw, tick, use

RACKS = [rack(kind=0), rack(kind=1), rack(kind=2)]


class FitsCall(Case):
    def test_a_tube_with_something_in_every_place(self):
        for before in ([], [put(0, 0)], [put(0, 1)], [put(0, 2)]):
            self.check_told(RACKS + [draw(hand=7)] + before, fits(0), [0, 1])

    def test_ranges(self):
        two = [draw(), draw()]
        self.check_range(two, lambda n: fits(n), 0, 1)
        self.check_range(two, lambda n: fits(0, n, 5), 0, 1000000)
        self.check_range(two, lambda n: fits(0, 5, n), 0, 1000000)
        self.check_refused([], fits(0), -1)

    def test_a_number_out_of_range_is_refused_of_a_tube_that_does_not_fit_too(self):
        for before in ([draw(), throw(0)], [empty()]):
            for call in (fits(0, -1), fits(0, 0, -1), fits(0, 1000001), fits(0, 0, FAR), fits(1)):
                self.check_refused(before, call, -1)

    def test_not_in_waste(self):
        self.check_told([draw(), throw(0)], fits(0, 1000000, 1000000), [0, 0])
        self.check_told([empty(), throw(0)], fits(0, 1000000, 1000000), [0, 0])

    def test_not_without_anything(self):
        self.check_told([empty()], fits(0, 1000000, 1000000), [0, 0])
        self.check_told([draw(amount=5), use(0, 0, 5)], fits(0, 1000000, 1000000), [0, 0])
        self.check_told([draw(amount=5), empty(), pour(0, 1, 5)], fits(0, 1000000, 1000000), [0, 0])
        self.check_told([draw(amount=5), use(0, 0, 4)], fits(0, 1000000, 1000000), [0, 1])
        self.check_told([draw(amount=5), empty(), pour(0, 1, 1)], fits(1), [0, 1])

    def test_minutes_warm(self):
        warm = RACKS + [draw(), tick(3), put(0, 0), tick(4), arm(0, 0, 1, 0), tick(50)]
        for most, answer in ((0, 0), (6, 0), (7, 1), (8, 1), (1000000, 1)):
            self.check_told(warm, fits(0, most, 0), [0, answer])

    def test_minutes_cold_and_frozen_are_not_asked(self):
        for r in (1, 2):
            self.check_told(RACKS + [draw(), put(0, r), tick(500)], fits(0, 0, 0), [0, 1])

    def test_the_most_minutes(self):
        warm = [draw()] + [tick(100000)] * 10
        self.assertEqual(run(warm + [fits(0, 999999), fits(0, 1000000)])[-2:], [[0, 0], [0, 1]])

    def test_thaws(self):
        thawed = RACKS + [draw()] + [put(0, 2), take(0)] * 3
        for thaws, answer in ((0, 0), (2, 0), (3, 1), (4, 1), (1000000, 1)):
            self.check_told(thawed, fits(0, 0, thaws), [0, answer])

    def test_both_are_asked(self):
        both = RACKS + [draw(), tick(9), put(0, 2), take(0)]
        calls = [fits(0, most, thaws) for most in (8, 9) for thaws in (0, 1)]
        self.assertEqual(run(both + calls)[-4:], [[0, 0], [0, 0], [0, 0], [0, 1]])

    def test_the_past_goes_along_with_a_pour(self):
        calls = RACKS + [draw(), tick(9), put(0, 2), take(0), empty(), pour(0, 1)]
        self.assertEqual(run(calls + [fits(1, 8, 1), fits(1, 9, 0), fits(1, 9, 1)])[-3:], [[0, 0], [0, 0], [0, 1]])


class ThenCall(Case):
    # Came at 2 into hand 3; at 5 slot 4 of rack 1; at 9 slot 0 of rack 2; at 10 hand 8; at 12 waste; now 15.
    LIFE = RACKS + [
        tick(2), draw(hand=3), tick(3), put(0, 1, 4), tick(4), arm(1, 4, 2, 0), tick(1), take(0, 8), tick(2), throw(0),
        tick(3),
    ]

    def test_every_minute(self):
        places = [None] * 2 + [[1, 3, 0]] * 3 + [[0, 1, 4]] * 4 + [[0, 2, 0]] + [[1, 8, 0]] * 2 + [[2, 0, 0]] * 4
        for minute, place in enumerate(places):
            self.check_told(self.LIFE, then(0, minute), [-8] if place is None else [0] + place)

    def test_ranges(self):
        self.check_range([draw(), empty(), tick(7)], lambda n: then(n, 7), 0, 1)
        self.check_range([draw(), empty(), tick(7)], lambda n: then(1, n), 0, 7)
        self.check_range([draw()], lambda n: then(0, n), 0, 0)
        self.check_range([draw()] + [tick(100000)] * 10, lambda n: then(0, n), 0, 1000000)
        self.check_refused([], then(0), -1)

    def test_the_minute_zero(self):
        self.check_told([draw(hand=6)], then(0), [0, 1, 6, 0])
        self.check_told([rack(), draw(), put(0, 0, 5), tick(3)], then(0), [0, 0, 0, 5])
        self.check_told([empty(hand=2), tick(9), take(0, 3)], then(0), [0, 1, 2, 0])

    def test_the_minute_now(self):
        self.check_told([rack(), draw(), tick(5), put(0, 0, 5)], then(0, 5), [0, 0, 0, 5])
        self.check_told([draw(), tick(5), throw(0)], then(0, 5), [0, 2, 0, 0])
        self.check_told([draw(), tick(5), throw(0)], then(0, 4), [0, 1, 0, 0])

    def test_the_last_of_several_moves_in_one_minute(self):
        moves = [take(0, 1), put(0, 0, 2), arm(0, 2, 0, 3), take(0, 4)]
        for many in range(1, 5):
            place = [[1, 1, 0], [0, 0, 2], [0, 0, 3], [1, 4, 0]][many - 1]
            calls = RACKS + [draw(), tick(5)] + moves[:many]
            self.check_told(calls, then(0, 5), [0] + place)
            self.check_told(calls + [tick(1), throw(0)], then(0, 5), [0] + place)
            self.check_told(calls, then(0, 4), [0, 1, 0, 0])

    def test_to_a_place_and_back_in_one_minute(self):
        self.check_told([rack(), draw(), put(0), tick(2), take(0), put(0), tick(2)], then(0, 2), [0, 0, 0, 0])

    def test_a_tube_that_came_later(self):
        for maker in (draw(), empty()):
            self.check_refused([tick(5), maker], then(0, 4), -8)
            self.check_refused([tick(5), maker, tick(5)], then(0, 0), -8)
            self.check_told([tick(5), maker, tick(5)], then(0, 5), [0, 1, 0, 0])

    def test_each_tube_by_its_own_places(self):
        calls = RACKS + [draw(hand=1), draw(hand=2), tick(1), put(0, 0, 0), tick(1), put(1, 1, 0), tick(1)]
        asked = [then(t, minute) for t in (0, 1) for minute in range(4)]
        self.assertEqual(run(calls + asked)[-8:], [
            [0, 1, 1, 0], [0, 0, 0, 0], [0, 0, 0, 0], [0, 0, 0, 0],
            [0, 1, 2, 0], [0, 1, 2, 0], [0, 0, 1, 0], [0, 0, 1, 0],
        ])

    def test_a_refused_move_is_no_move(self):
        calls = [rack(), draw(), draw(), put(0), tick(1), put(0, 0, 1), take(0, 10), put(1, 0, 0), arm(0, 1, 0, 2)]
        self.check_told(calls + [tick(1)], then(0, 1), [0, 0, 0, 0])
        self.check_told(calls + [tick(1)], then(1, 1), [0, 1, 0, 0])

    def test_minus_one_comes_first(self):
        later = [tick(5), draw()]
        for call in (then(0, 6), then(0, -1), then(1, 4), then(1, 0), then(-1, 0), then(0, FAR), then(1, -FAR)):
            self.check_refused(later, call, -1)
