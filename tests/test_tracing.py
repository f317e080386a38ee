"""The calls 14 back, 15 from, 16 onto."""

from itertools import product

from tests.helper import Case, back, counts, draw, empty, from_tubes, onto, pour, run, take, throw, tick, use


def told(members):
    return [0, len(members)] + members


class Ranges(Case):
    def test_ranges(self):
        for call in (back, from_tubes, onto):
            self.check_range([draw(), empty(), pour(0, 1)], call, 0, 1)
            self.check_refused([], call(0), -1)


class BackCall(Case):
    def test_a_tube_that_nothing_came_into(self):
        self.check_told([empty()], back(0), [0, 0])
        self.check_told([empty(), draw(), use(1)], back(0), [0, 0])
        self.check_told([empty(), throw(0)], back(0), [0, 0])

    def test_a_tube_that_was_drawn(self):
        self.check_told([draw()], back(0), told([0]))
        self.check_told([draw(), use(0), draw()], back(1), told([2]))
        self.check_told([draw(), throw(0)], back(0), told([0]))

    def test_the_row_of_several_pours(self):
        calls = [empty(), draw(), empty(), empty(), use(1)]
        calls += [pour(1, 3, 9), use(3), pour(3, 0, 5), pour(0, 2, 2)]
        self.check_told(calls, back(2), told([5, 4, 2, 0]))
        self.check_told(calls, back(0), told([4, 2, 0]))
        self.check_told(calls, back(3), told([2, 0]))
        self.check_told(calls, back(1), told([0]))

    def test_filled_from_two_others(self):
        # Entries: 0 drawn 0, 1 poured 0 to 1, 2 poured 0 to 2, then 3 is filled from 2 first and from 1 next.
        calls = [draw(), empty(), empty(), empty(), pour(0, 1, 9), pour(0, 2, 9), pour(2, 3), pour(1, 3), pour(0, 3)]
        self.check_told(calls, back(3), told([3, 2, 0]))

    def test_more_into_a_tube_that_was_drawn(self):
        self.check_told([draw(), empty(), pour(0, 1, 9), pour(1, 0)], back(0), told([0]))

    def test_poured_empty_and_filled_again(self):
        calls = [draw(), empty(), empty(), pour(0, 1, 9), pour(1, 2, 9), pour(0, 1, 7)]
        self.check_told(calls, back(1), told([1, 0]))
        self.check_told(calls, back(2), told([2, 1, 0]))
        self.check_told(calls + [pour(2, 1, 9)], back(1), told([1, 0]))

    def test_poured_to_and_fro(self):
        calls = [draw(), empty(), empty()] + [pour(0, 1, 5), pour(1, 0, 5), pour(0, 2, 5), pour(2, 1, 5)] * 3
        self.check_told(calls, back(0), told([0]))
        self.check_told(calls, back(1), told([1, 0]))
        self.check_told(calls, back(2), told([3, 0]))

    def test_the_row_goes_by_the_first_entry_and_not_by_the_last_before(self):
        # What is in 2 came from 1 behind a second pour into 1; the row still tells the first.
        calls = [draw(), empty(), empty(), pour(0, 1), pour(0, 1), pour(0, 1), pour(1, 2, 3)]
        self.check_told(calls, back(2), told([4, 1, 0]))

    def test_the_longest_row(self):
        calls = [draw()] + [empty()] * 59 + [pour(t, t + 1) for t in range(59)] + [back(59)]
        self.check(calls, told(list(range(59, -1, -1))))

    def test_thrown_and_used_do_not_come_into_a_tube(self):
        # The numbers of a use and of a throw are those of tubes too.
        calls = [draw(), empty(), use(0, 1, 1), throw(0)]
        self.check_told(calls, back(1), [0, 0])
        self.check_told([draw(), empty(), use(0, 1), pour(0, 1)], back(1), told([2, 0]))


class FromAndOnto(Case):
    def check_both(self, calls, sources, goals):
        for t, members in enumerate(sources):
            self.check_told(calls, from_tubes(t), told(members))
        for t, members in enumerate(goals):
            self.check_told(calls, onto(t), told(members))

    def test_a_tube_by_itself(self):
        self.check_both([draw(), empty(), throw(1)], [[0], [1]], [[0], [1]])

    def test_a_chain(self):
        calls = [draw(), empty(), empty(), empty(), pour(0, 3, 9), pour(3, 1, 5), pour(1, 2, 2)]
        self.check_both(calls, [[0], [0, 1, 3], [0, 1, 2, 3], [0, 3]], [[0, 1, 2, 3], [1, 2], [2], [1, 2, 3]])

    def test_branches(self):
        calls = [empty()] * 4 + [draw(), pour(4, 0, 9), pour(4, 1, 9), pour(0, 2), pour(1, 3), pour(0, 3)]
        sources = [[0, 4], [1, 4], [0, 2, 4], [0, 1, 3, 4], [4]]
        goals = [[0, 2, 3], [1, 3], [2], [3], [0, 1, 2, 3, 4]]
        self.check_both(calls, sources, goals)

    def test_to_and_fro(self):
        calls = [draw(), empty(), pour(0, 1, 5), pour(1, 0, 5)]
        self.check_both(calls, [[0, 1], [0, 1]], [[0, 1], [0, 1]])

    def test_a_circle_with_a_way_in_and_a_way_out(self):
        calls = [draw()] + [empty()] * 4
        calls += [pour(0, 1, 50), pour(1, 2, 40), pour(2, 3, 30), pour(3, 1, 20), pour(2, 4, 5)]
        sources = [[0], [0, 1, 2, 3], [0, 1, 2, 3], [0, 1, 2, 3], [0, 1, 2, 3, 4]]
        goals = [[0, 1, 2, 3, 4], [1, 2, 3, 4], [1, 2, 3, 4], [1, 2, 3, 4], [4]]
        self.check_both(calls, sources, goals)

    def test_whenever_it_was_poured(self):
        # 1 was poured into 2 before anything of 3 came into 1: 3 is a source of 2 all the same.
        calls = [draw()] + [empty()] * 3 + [pour(0, 1, 9), pour(1, 2, 5), pour(0, 3, 9), pour(3, 1, 5)]
        self.check_both(calls, [[0], [0, 1, 3], [0, 1, 2, 3], [0, 3]], [[0, 1, 2, 3], [1, 2], [2], [1, 2, 3]])

    def test_two_draws_stay_apart(self):
        calls = [draw(), draw(), empty(), empty(), pour(0, 2), pour(1, 3), pour(1, 2)]
        self.check_both(calls, [[0], [1], [0, 2], [1, 3]], [[0, 2], [1, 3], [2], [3]])

    def test_used_and_thrown_are_no_pours(self):
        calls = [draw(), draw(), draw(), use(0, 1), use(0, 2), throw(1)]
        self.check_both(calls, [[0], [1], [2]], [[0], [1], [2]])

    def test_tubes_in_waste_are_told_too(self):
        calls = [draw(), empty(), pour(0, 1), throw(0), throw(1)]
        self.check_both(calls, [[0], [0, 1]], [[0, 1], [1]])

    def test_a_refused_pour_is_none(self):
        calls = [draw(), empty(), take(1, 5), pour(0, 1)]
        self.check_both(calls, [[0], [1]], [[0], [1]])

    def test_all_sixty(self):
        # The pours go from the last to the first, and they come in the order that is worst for one walk.
        calls = [empty()] * 59 + [draw()] + [pour(t, t - 1, t) for t in range(59, 0, -1)]
        everything = told(list(range(60)))
        self.assertEqual(run(calls + [from_tubes(0), onto(59)])[-2:], [everything, everything])
        self.assertEqual(run(calls + [from_tubes(59), onto(0)])[-2:], [told([59]), told([0])])

    def test_a_tube_is_a_source_of_another_just_if_that_is_a_goal_of_it(self):
        pours = [(0, 1), (1, 2), (2, 0), (2, 3), (4, 3), (3, 5), (5, 4), (0, 4)]
        calls = [draw(amount=1000)] + [empty()] * 5 + [pour(0, t, 100) for t in range(1, 6) if t != 2]
        calls += [pour(a, b, 3) for a, b in pours] + [tick(1)]
        found = run(calls + [from_tubes(t) for t in range(6)] + [onto(t) for t in range(6)])[len(calls):]
        sources = [answer[2:] for answer in found[:6]]
        goals = [answer[2:] for answer in found[6:]]
        for a, b in product(range(6), repeat=2):
            self.assertEqual(a in sources[b], b in goals[a])

    def test_a_full_book(self):
        calls = [draw(), empty()] + [pour(0, 1), pour(1, 0)] * 99 + [pour(0, 1), counts(), from_tubes(1), back(1)]
        self.assertEqual(run(calls)[-3:], [[0, 0, 0, 1, 2, 200], told([0, 1]), told([1, 0])])
