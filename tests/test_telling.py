"""The calls 10 place, 11 tube, 12 past, and how pasts grow."""

from tests.helper import Case, arm, draw, empty, past, place, pour, put, rack, run, take, throw, tick, tube, use

# Racks 0 warm, 1 cold, 2 frozen, 3 frozen too.
RACKS = [rack(kind=0), rack(kind=1), rack(kind=2), rack(kind=2)]


class Telling(Case):
    def test_ranges(self):
        for call in (place, tube, past):
            self.check_range([draw(), empty()], call, 0, 1)
            self.check_refused([], call(0), -1)

    def test_places(self):
        calls = RACKS + [draw(hand=0), draw(hand=9), draw(), draw(), put(2, 3, 5), throw(3)]
        calls += [place(t) for t in range(4)]
        self.assertEqual(run(calls)[-4:], [[0, 1, 0, 0], [0, 1, 9, 0], [0, 0, 3, 5], [0, 2, 0, 0]])

    def test_tubes(self):
        calls = [draw(1, 1, 5, 7, 0, "a-B9"), empty(100000, 0, "ABCDEFGHIJKL"), draw(label="z"), throw(2)]
        calls += [tube(0), tube(1), tube(2)]
        self.assertEqual(run(calls)[-3:], [
            [0, 5, 7, 0, 4, 97, 45, 66, 57],
            [0, 0, 100000, -1, 12, 65, 66, 67, 68, 69, 70, 71, 72, 73, 74, 75, 76],
            [0, 0, 1000, 1, 1, 122],
        ])

    def test_telling_changes_nothing(self):
        before = RACKS + [draw(), put(0, 2, 1), tick(4)]
        telling = [place(0), tube(0), past(0)]
        self.assertEqual(run(before + telling * 3)[-9:], run(before + telling)[-3:] * 3)


class Minutes(Case):
    def test_by_the_kind_of_the_rack(self):
        for r, answer in enumerate([[0, 7, 0, 0, 0], [0, 0, 7, 0, 0], [0, 0, 0, 7, 0]]):
            self.check(RACKS + [draw(), put(0, r), tick(7), past(0)], answer)

    def test_warm_in_a_hand(self):
        for hand in (0, 1, 2, 9):
            self.check(RACKS + [draw(hand=hand), tick(7), past(0)], [0, 7, 0, 0, 0])

    def test_none_in_waste(self):
        self.check([draw(), tick(2), throw(0), tick(7), past(0)], [0, 2, 0, 0, 0])

    def test_each_tube_by_its_own_place(self):
        calls = RACKS + [draw(), draw(), draw(), empty(), draw(), throw(4)]
        calls += [put(0, 0), put(1, 1), put(2, 2), tick(3), tick(4)] + [past(t) for t in range(5)]
        self.assertEqual(run(calls)[-5:], [
            [0, 7, 0, 0, 0], [0, 0, 7, 0, 0], [0, 0, 0, 7, 0], [0, 7, 0, 0, 0], [0, 0, 0, 0, 0],
        ])

    def test_none_from_before_it_came(self):
        self.check([tick(50), draw(), tick(3), past(0)], [0, 3, 0, 0, 0])
        self.check([tick(50), empty(), tick(3), past(0)], [0, 3, 0, 0, 0])

    def test_they_add_up_over_places(self):
        calls = RACKS + [draw(), tick(1), put(0, 1), tick(2), arm(1, 0, 2, 0), tick(4), take(0, 3), tick(8), put(0, 0)]
        self.check(calls + [tick(16), past(0)], [0, 25, 2, 4, 1])

    def test_up_to_the_last_minute(self):
        self.check(RACKS + [draw(), put(0, 2)] + [tick(100000)] * 10 + [past(0)], [0, 0, 0, 1000000, 0])


class Thaws(Case):
    def test_taken_into_a_hand(self):
        self.check(RACKS + [draw(), put(0, 2), take(0, 4), past(0)], [0, 0, 0, 0, 1])

    def test_thrown_away(self):
        self.check(RACKS + [draw(), put(0, 2), throw(0), past(0)], [0, 0, 0, 0, 1])

    def test_moved_to_a_rack_that_is_not_frozen(self):
        for r in (0, 1):
            self.check(RACKS + [draw(), put(0, 2), arm(2, 0, r, 3), past(0)], [0, 0, 0, 0, 1])

    def test_not_from_frozen_to_frozen(self):
        self.check(RACKS + [draw(), put(0, 2), arm(2, 0, 3, 0), past(0)], [0, 0, 0, 0, 0])
        self.check(RACKS + [draw(), put(0, 2), arm(2, 0, 2, 1), past(0)], [0, 0, 0, 0, 0])

    def test_not_out_of_other_places(self):
        for r in (0, 1):
            self.check(RACKS + [draw(), put(0, r), take(0, 4), past(0)], [0, 0, 0, 0, 0])
            self.check(RACKS + [draw(), put(0, r), throw(0), past(0)], [0, 0, 0, 0, 0])
            self.check(RACKS + [draw(), put(0, r), arm(r, 0, 1 - r, 0), past(0)], [0, 0, 0, 0, 0])
            self.check(RACKS + [draw(), put(0, r), arm(r, 0, 2, 0), past(0)], [0, 0, 0, 0, 0])
        self.check(RACKS + [draw(), take(0, 2), take(0, 3), throw(0), past(0)], [0, 0, 0, 0, 0])
        self.check(RACKS + [draw(), put(0, 2), past(0)], [0, 0, 0, 0, 0])

    def test_once_for_each_time(self):
        calls = RACKS + [draw()] + [put(0, 2), take(0, 0)] * 5 + [put(0, 3), arm(3, 0, 0, 0), past(0)]
        self.check(calls, [0, 0, 0, 0, 6])

    def test_an_empty_tube_thaws_too(self):
        self.check(RACKS + [empty(), put(0, 2), take(0, 0), past(0)], [0, 0, 0, 0, 1])

    def test_only_the_tube_that_comes_out(self):
        calls = RACKS + [draw(), draw(), put(0, 2, 0), put(1, 2, 1), take(0, 0), past(1)]
        self.check(calls, [0, 0, 0, 0, 0])


class PouredPasts(Case):
    # Tube 0 has 3 warm, 0 cold, 9 frozen, 1 thaw; tube 1, without a draw, 6 warm and 6 cold.
    TWO = RACKS + [
        draw(), empty(), put(1, 1), tick(3), put(0, 2), tick(3), take(1), tick(6), take(0),
    ]

    def test_the_two_pasts(self):
        self.assertEqual(run(self.TWO + [past(0), past(1)])[-2:], [[0, 3, 0, 9, 1], [0, 6, 6, 0, 0]])

    def test_a_tube_that_had_no_draw_gets_the_past_of_the_source(self):
        calls = self.TWO + [pour(0, 1), past(0), past(1)]
        self.assertEqual(run(calls)[-2:], [[0, 3, 0, 9, 1], [0, 3, 0, 9, 1]])

    def test_the_pasts_go_on_apart(self):
        calls = self.TWO + [pour(0, 1), put(0, 1), tick(5), past(0), past(1)]
        self.assertEqual(run(calls)[-2:], [[0, 3, 5, 9, 1], [0, 8, 0, 9, 1]])

    def later(self, emptied):
        """Both of one draw; then tube 1 has been colder and tube 0 has thawed more."""
        calls = [pour(0, 1, 4)] + ([use(1, 0, 4)] if emptied else [])
        return self.TWO + calls + [put(1, 1), put(0, 2), tick(20), take(1), take(0), tick(1), take(0, 7), take(0, 0)]

    def test_the_worse_of_both(self):
        for emptied in (False, True):
            calls = self.later(emptied)
            self.assertEqual(run(calls + [past(0), past(1)])[-2:], [[0, 4, 0, 29, 2], [0, 4, 20, 9, 1]])
            self.assertEqual(run(calls + [pour(0, 1), past(0), past(1)])[-2:], [[0, 4, 0, 29, 2], [0, 4, 20, 29, 2]])

    def test_the_worse_of_both_the_other_way(self):
        calls = self.later(False) + [pour(1, 0), past(0), past(1)]
        self.assertEqual(run(calls)[-2:], [[0, 4, 20, 29, 2], [0, 4, 20, 9, 1]])

    def test_warm_minutes_are_the_greater_ones_too(self):
        warmer = [draw(), empty(), pour(0, 1, 9), put(0, 1), tick(5), take(0)]
        self.assertEqual(run(RACKS + warmer + [pour(0, 1), past(0), past(1)])[-2:], [[0, 0, 5, 0, 0], [0, 5, 5, 0, 0]])
        self.assertEqual(run(RACKS + warmer + [pour(1, 0), past(0), past(1)])[-2:], [[0, 5, 5, 0, 0], [0, 5, 0, 0, 0]])

    def test_a_refused_pour_leaves_the_past(self):
        self.check(self.TWO + [pour(0, 1, 2000), past(1)], [0, 6, 6, 0, 0])
