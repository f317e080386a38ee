"""The call 20 plan, and promise 3."""

import random
from itertools import combinations, permutations

from tests.helper import MOST_SCAN_PLAN_PRINT, Case, arm, draw, empty, plan, put, rack, run, slot_name
from tests.helper import take, throw

LABELS = ["T" + str(t) for t in range(60)]


def standing(rows, columns, where):
    """A rack, and tube t (T0, T1 and so on) in the slot where[t]."""
    calls = [rack(rows, columns)] + [empty(label=LABELS[t]) for t in range(len(where))]
    return calls + [put(t, 0, slot) for t, slot in enumerate(where)]


def order(columns, where):
    return "".join(slot_name(slot, columns) + " " + LABELS[t] + "\n" for t, slot in enumerate(where))


def moves_of(answer):
    assert answer[0] == 0 and len(answer) == 2 + 2 * answer[1], answer
    return [tuple(answer[at:at + 2]) for at in range(2, len(answer), 2)]


def made(where, moves):
    """Where the tubes stand behind the moves; each takes a tube from a slot to an empty one."""
    where = list(where)
    for start, end in moves:
        assert start in where and end not in where, (where, start, end)
        where[where.index(start)] = end
    return tuple(where)


def moves_by_the_words(slots, where, goal):
    """The moves as the document tells them, and where they lead."""
    where = list(where)
    moves = []
    while True:
        free = [slot for slot in range(slots) if slot not in where]
        due = [slot for slot in free if slot in goal]
        wrong = [slot for slot in range(slots) if slot in where and goal[where.index(slot)] != slot]
        if due:
            move = (where[goal.index(due[0])], due[0])
        elif wrong and free:
            move = (wrong[0], free[0])
        else:
            return moves, tuple(where)
        moves.append(move)
        where[where.index(move[0])] = move[1]


def fewest_moves(slots, where):
    """By a search over all: how many moves lead at least to each of the ways to stand."""
    found = {tuple(where): 0}
    edge = [tuple(where)]
    while edge:
        further = []
        for at in edge:
            for t in range(len(at)):
                for slot in range(slots):
                    way = at[:t] + (slot,) + at[t + 1:]
                    if slot not in at and way not in found:
                        found[way] = found[at] + 1
                        further.append(way)
        edge = further
    return found


def circles(where, goal):
    """How many circles there are of tubes each of which stands in another's slot."""
    left = {start: end for start, end in zip(where, goal) if start != end}
    many = 0
    while left:
        first = at = next(iter(left))
        while at in left:
            at = left.pop(at)
        many += at == first
    return many


class PlanCall(Case):
    def check_plan(self, rows, columns, where, goal, moves):
        answer = [0, len(moves)]
        for move in moves:
            answer.extend(move)
        self.check_told(standing(rows, columns, where), plan(0, order(columns, goal)), answer)

    def test_range(self):
        self.check_range([rack(), rack(1, 1)], plan, 0, 1)
        self.check_refused([draw()], plan(0), -1)

    def test_no_move(self):
        self.check_plan(2, 3, [], [], [])
        self.check_plan(2, 3, [4], [4], [])
        self.check_plan(2, 3, [5, 0, 2], [5, 0, 2], [])

    def test_one_move(self):
        self.check_plan(2, 3, [4], [0], [(4, 0)])
        self.check_plan(2, 3, [0], [5], [(0, 5)])
        self.check_plan(1, 2, [0], [1], [(0, 1)])
        self.check_plan(2, 3, [4, 1], [0, 1], [(4, 0)])

    def test_the_first_of_the_empty_slots_comes_first(self):
        self.check_plan(2, 3, [0, 1, 2], [5, 4, 3], [(2, 3), (1, 4), (0, 5)])
        self.check_plan(2, 3, [5, 4], [1, 0], [(4, 0), (5, 1)])

    def test_a_chain(self):
        self.check_plan(1, 4, [0, 1, 2], [1, 2, 3], [(2, 3), (1, 2), (0, 1)])
        self.check_plan(1, 4, [1, 2, 3], [0, 1, 2], [(1, 0), (2, 1), (3, 2)])
        self.check_plan(1, 5, [0, 2, 3], [2, 3, 1], [(3, 1), (2, 3), (0, 2)])

    def test_a_slot_that_becomes_empty_and_is_ahead_comes_next(self):
        # The slot 2 is filled out of slot 0, which is then the first empty one whose tube stands elsewhere.
        self.check_plan(1, 7, [0, 1, 3], [2, 4, 0], [(0, 2), (3, 0), (1, 4)])

    def test_a_circle_of_two_with_one_empty_slot(self):
        self.check_plan(1, 3, [0, 1], [1, 0], [(0, 2), (1, 0), (2, 1)])
        self.check_plan(1, 3, [1, 2], [2, 1], [(1, 0), (2, 1), (0, 2)])
        self.check_plan(1, 3, [0, 2], [2, 0], [(0, 1), (2, 0), (1, 2)])

    def test_a_circle_of_two_with_many_empty_slots(self):
        self.check_plan(2, 5, [3, 7], [7, 3], [(3, 0), (7, 3), (0, 7)])
        self.check_plan(2, 5, [0, 9], [9, 0], [(0, 1), (9, 0), (1, 9)])

    def test_a_circle_of_more(self):
        self.check_plan(1, 4, [0, 1, 2], [1, 2, 0], [(0, 3), (2, 0), (1, 2), (3, 1)])
        self.check_plan(1, 4, [0, 1, 2], [2, 0, 1], [(0, 3), (1, 0), (2, 1), (3, 2)])
        self.check_plan(2, 4, [1, 3, 4, 6], [3, 4, 6, 1], [(1, 0), (6, 1), (4, 6), (3, 4), (0, 3)])

    def test_several_circles(self):
        self.check_plan(1, 5, [0, 1, 2, 3], [1, 0, 3, 2], [(0, 4), (1, 0), (4, 1), (2, 4), (3, 2), (4, 3)])
        self.check_plan(1, 6, [0, 1, 3, 4], [4, 3, 1, 0], [(0, 2), (4, 0), (2, 4), (1, 2), (3, 1), (2, 3)])

    def test_a_chain_comes_before_a_circle(self):
        self.check_plan(1, 5, [0, 1, 2], [1, 0, 4], [(2, 4), (0, 2), (1, 0), (2, 1)])
        self.check_plan(1, 5, [0, 1, 4], [1, 0, 2], [(4, 2), (0, 3), (1, 0), (3, 1)])

    def test_a_tube_in_its_slot_is_not_moved(self):
        self.check_plan(1, 4, [0, 1, 2], [0, 2, 1], [(1, 3), (2, 1), (3, 2)])

    def test_the_lines_in_any_order_and_lines_that_mean_nothing(self):
        before = standing(1, 3, [0, 1])
        for sheet in ("A1 T1\nA2 T0", "A2 T0\nA1 T1\n", "\n# x\nA2 T0\n\n#\nA1 T1\n\n"):
            self.check_told(before, plan(0, sheet), [0, 3, 0, 2, 1, 0, 2, 1])

    def test_nothing_is_moved(self):
        before = standing(2, 3, [0, 1, 5])
        call = plan(0, order(3, [1, 0, 2]))
        first = run(before + [call])[-1]
        self.assertGreater(first[1], 3)
        self.assertEqual(run(before + [call] * 5)[-5:], [first] * 5)

    def test_another_rack(self):
        calls = [rack(1, 2)] + [draw(label="T0"), draw(label="T1"), put(0, 0, 0), put(1, 0, 1), rack(2, 2)]
        calls += [draw(label="T0"), draw(label="T1"), put(2, 1, 3), put(3, 1, 2)]
        self.check_told(calls, plan(1, "A1 T0\nA2 T1"), [0, 2, 3, 0, 2, 1])
        self.check_told(calls, plan(0, "A1 T0\nA2 T1"), [0, 0])

    def test_the_moves_can_be_made_by_arm(self):
        where, goal = [0, 1, 2, 5, 7], [1, 0, 7, 4, 2]
        before = standing(2, 4, where)
        moves = moves_of(run(before + [plan(0, order(4, goal))])[-1])
        after = before + [arm(0, start, 0, end) for start, end in moves]
        found = run(after + [plan(0, order(4, goal))])
        self.assertTrue(all(answer[0] == 0 for answer in found))
        self.assertEqual(found[-1], [0, 0])


class NoOrder(Case):
    # T0 in slot 0 and T1 in slot 2 of rack 0; others elsewhere.
    BEFORE = [rack(1, 4), rack(1, 4)] + [draw(label=label) for label in ("T0", "T1", "H", "W", "O", "T0")] + [
        put(0, 0, 0), put(1, 0, 2), throw(3), put(4, 1, 0), put(5, 1, 1),
    ]

    def test_an_order(self):
        self.check_told(self.BEFORE, plan(0, "A1 T0\nA3 T1"), [0, 0])

    def test_a_label_that_no_tube_in_the_rack_has(self):
        for label in ("X", "T", "T00", "t0", "H", "W", "O", "R"):
            self.check_refused(self.BEFORE, plan(0, "A1 T0\nA3 T1\nA4 " + label), -7)
            self.check_refused(self.BEFORE, plan(0, "A1 T0\nA3 " + label), -7)

    def test_a_label_that_several_tubes_in_the_rack_have(self):
        calls = [rack(1, 4)] + [draw(label=label) for label in "XXY"] + [put(t, 0, t) for t in range(3)]
        for sheet in ("A1 X\nA2 X\nA3 Y", "A1 X\nA3 Y", "A3 Y", "A1 X", "A1 X\nA2 X", "A1 Y\nA2 X\nA3 X", ""):
            self.check_refused(calls, plan(0, sheet), -7)
        self.check_told(calls + [take(1)], plan(0, "A1 X\nA3 Y"), [0, 0])

    def test_a_tube_that_is_not_named(self):
        for sheet in ("", "A1 T0", "A3 T1", "A1 T1", "#A1 T0\nA3 T1"):
            self.check_refused(self.BEFORE, plan(0, sheet), -7)

    def test_a_tube_that_is_named_twice(self):
        for sheet in ("A1 T0\nA2 T0\nA3 T1", "A1 T0\nA2 T0", "A1 T0\nA3 T1\nA4 T1", "A1 T1\nA3 T0\nA4 T1"):
            self.check_refused(self.BEFORE, plan(0, sheet), -7)

    def test_a_sheet_for_a_rack_without_tubes(self):
        self.check_refused([rack(), draw(label="X")], plan(0, "A1 X"), -7)
        self.check_told([rack(), draw(label="X")], plan(0, ""), [0, 0])

    def test_no_order_comes_before_a_full_rack(self):
        full = standing(1, 2, [0, 1])
        self.check_refused(full, plan(0, "A1 T1\nA2 T9"), -7)
        self.check_refused(full, plan(0, "A1 T1"), -7)
        self.check_refused(full, plan(0, "A1 T1\nA2 T1"), -7)


class FullRack(Case):
    def test_not_in_order(self):
        self.check_refused(standing(1, 2, [0, 1]), plan(0, order(2, [1, 0])), -9)
        self.check_refused(standing(2, 2, [0, 1, 2, 3]), plan(0, order(2, [0, 2, 1, 3])), -9)
        self.check_refused(standing(5, 12, range(60)), plan(0, order(12, list(range(58)) + [59, 58])), -9)
        self.check_refused(standing(5, 12, range(60)), plan(0, order(12, range(59, -1, -1))), -9)

    def test_in_order_already(self):
        self.check_told(standing(1, 1, [0]), plan(0, order(1, [0])), [0, 0])
        self.check_told(standing(2, 2, [3, 0, 2, 1]), plan(0, order(2, [3, 0, 2, 1])), [0, 0])
        self.check_told(standing(5, 12, range(59, -1, -1)), plan(0, order(12, range(59, -1, -1))), [0, 0])

    def test_one_slot_is_enough(self):
        before = standing(1, 3, [0, 1, 2])
        self.check_refused(before, plan(0, "A1 T1\nA2 T0\nA3 T2"), -9)
        self.check_told(before + [take(2)], plan(0, "A1 T1\nA2 T0"), [0, 3, 0, 2, 1, 0, 2, 1])

    def test_an_empty_slot_in_another_rack_does_not_help(self):
        self.check_refused(standing(1, 2, [0, 1]) + [rack(8, 12)], plan(0, order(2, [1, 0])), -9)


class FewestMoves(Case):
    """Promise 3: the moves lead to the order told, and no fewer do."""

    def check_goals(self, rows, columns, where, goals):
        """All of these orders, out of the one way to stand."""
        slots = rows * columns
        fewest = fewest_moves(slots, where)
        before = standing(rows, columns, where)
        for at in range(0, len(goals), MOST_SCAN_PLAN_PRINT):
            some = goals[at:at + MOST_SCAN_PLAN_PRINT]
            found = run(before + [plan(0, order(columns, goal)) for goal in some])[len(before):]
            for goal, answer in zip(some, found):
                self.check_answer(slots, where, goal, answer, fewest)

    def check_answer(self, slots, where, goal, answer, fewest):
        moves, end = moves_by_the_words(slots, where, goal)
        if goal not in fewest:
            self.assertEqual(answer, [-9])
            self.assertNotEqual(end, goal)
            return
        self.assertEqual(moves_of(answer), moves)
        self.assertEqual(made(where, moves_of(answer)), goal)
        self.assertEqual(answer[1], fewest[goal], (where, goal))

    def test_every_order_out_of_every_way_to_stand(self):
        for rows, columns in ((1, 1), (1, 2), (2, 1), (1, 3), (2, 2)):
            slots = rows * columns
            for tubes in range(slots + 1):
                ways = list(permutations(range(slots), tubes))
                for where in ways:
                    self.check_goals(rows, columns, where, ways)

    def test_every_order_out_of_every_choice_of_slots(self):
        for rows, columns in ((1, 5), (2, 3)):
            slots = rows * columns
            for tubes in range(slots + 1):
                ways = list(permutations(range(slots), tubes))
                for where in combinations(range(slots), tubes):
                    self.check_goals(rows, columns, where, ways)

    def test_some_orders_in_racks_of_seven_slots(self):
        source = random.Random(7)
        for tubes in range(2, 7):
            ways = list(permutations(range(7), tubes))
            for where in source.sample(ways, 2):
                self.check_goals(1, 7, where, [source.choice(ways) for n in range(60)])

    def test_the_largest_rack(self):
        # Each tube that isn't in its slot is moved, and one more move undoes each circle: fewer can't do.
        source = random.Random(96)
        seen = {}
        for case in range(60):
            tubes = 60 if case % 2 else source.randint(1, 60)
            where = source.sample(range(96), tubes)
            goal = list(where)
            if case % 3 == 0:
                source.shuffle(goal)
            elif case % 3 == 1:
                goal = source.sample(range(96), tubes)
            else:
                some = source.sample(range(tubes), tubes // 2)
                for t, slot in zip(some, sorted(where[t] for t in some)):
                    goal[t] = slot
            answer = run(standing(8, 12, where) + [plan(0, order(12, goal))])[-1]
            moves, end = moves_by_the_words(96, where, goal)
            self.assertEqual(moves_of(answer), moves)
            self.assertEqual(made(where, moves), tuple(goal))
            wrong = len([1 for start, slot in zip(where, goal) if start != slot])
            self.assertEqual(len(moves), wrong + circles(where, goal))
            seen[circles(where, goal)] = True
        self.assertGreater(len(seen), 5)

    def test_the_most_moves(self):
        # Thirty circles of two tubes.
        where = list(range(60))
        goal = [t ^ 1 for t in where]
        answer = run(standing(8, 12, where) + [plan(0, order(12, goal))])[-1]
        self.assertEqual(answer[:2], [0, 90])
        self.assertEqual(moves_of(answer)[:4], [(0, 60), (1, 0), (60, 1), (2, 60)])
        self.assertEqual(made(where, moves_of(answer)), tuple(goal))

    def test_a_large_rack_with_one_empty_slot(self):
        source = random.Random(11)
        for rows, columns in ((7, 8), (5, 11), (4, 12)):
            slots = rows * columns
            where = source.sample(range(slots), slots - 1)
            goal = source.sample(range(slots), slots - 1)
            answer = run(standing(rows, columns, where) + [plan(0, order(columns, goal))])[-1]
            moves, end = moves_by_the_words(slots, where, goal)
            self.assertEqual(moves_of(answer), moves)
            self.assertEqual(end, tuple(goal))
