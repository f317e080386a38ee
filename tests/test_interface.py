"""How a list of calls is read, and how the answers stand in the list that is given back."""

from tests.helper import FAR, MOST_NUMBERS, Case, arm, back, books, counts, cut, draw, empty, entry, find, fits
from tests.helper import from_tubes, joined, onto, past, place, plan, pour, print_rack, put, rack, run, scan, take, then
from tests.helper import throw, tick, tube, use
from tubebook.custody import answers

ANSWERED = [
    rack(), draw(), empty(), pour(0, 1, 4), use(0), put(0), take(0), put(0), arm(0, 0, 0, 1), scan(0, "A2 D\nB1 E"),
    plan(0, "B3 D"), print_rack(0), tick(3), throw(0), place(0), tube(0), past(0), fits(1, 3), back(1), from_tubes(1),
    onto(0), books(0), then(0, 2), find("E"), entry(1), counts(), scan(0, "A2\n"), plan(0, "?"),
]
REFUSED = [
    rack(0), draw(0), empty(0), pour(9, 9), use(9), put(9), take(9), arm(9, 0, 0, 0), tick(0), throw(9), place(9),
    tube(9), past(9), fits(9), back(9), from_tubes(9), onto(9), books(9), then(9), scan(9, "A1 D\n"), plan(9, "?"),
    print_rack(9), entry(9),
]
EVERY_CALL = ANSWERED + REFUSED


class Interface(Case):
    def test_the_list_that_is_given_back(self):
        calls = [0, 1, 1, 2, 1, 70, 1, 5, 6, 10, 20, 3, 2, 97, 45, 4, 0, 0, 4, 11, 0, 10, 7, 10, 0]
        self.assertEqual(answers(calls), [2, 0, 0, 3, 0, 0, 0, 2, 0, 6, 7, 0, 6, 20, 0, 2, 97, 45, 1, -1, 4, 0, 1, 3, 0])

    def test_one_call(self):
        self.assertEqual(answers([8, 5]), [2, 0, 5])
        self.assertEqual(answers([8, 0]), [1, -1])

    def test_what_stands_behind_a_refused_label_is_read(self):
        for length in (0, 1, 13, 40):
            label = [8] * length
            calls = [[0, 1, 1, 0, length] + label, [1, 1, 1, 1, 1, 0, length] + label, [2, 1, 0, length] + label]
            self.assertEqual(run(calls + [tick(2)]), [[-2], [-2], [-2], [0, 2]])

    def test_what_stands_behind_every_refused_call_is_read(self):
        for call in EVERY_CALL:
            self.assertEqual(run([call, tick(2)])[1], [0, 5] if call == tick(3) else [0, 2])

    def test_every_call_is_among_them(self):
        self.assertEqual(sorted(set(call[0] for call in ANSWERED)), list(range(25)))
        found = run(EVERY_CALL)
        self.assertTrue(all(answer[0] >= 0 for answer in found[:len(ANSWERED)]), found)
        self.assertEqual(found[len(ANSWERED):], [[-1]] * len(REFUSED))

    def test_the_list_that_is_handed_in_is_as_it_was(self):
        calls = joined(EVERY_CALL)
        kept = list(calls)
        answers(calls)
        self.assertEqual(calls, kept)

    def test_the_list_that_is_given_back_is_free(self):
        calls = joined(EVERY_CALL)
        first = answers(calls)
        kept = list(first)
        first.clear()
        self.assertEqual(answers(calls), kept)

    def test_nothing_is_kept(self):
        calls = joined(EVERY_CALL)
        first = answers(calls)
        answers(joined([rack()] * 6 + [draw()] * 60 + [tick(100000)] * 10))
        self.assertEqual(answers(calls), first)

    def test_whole_numbers_alone(self):
        given = answers(joined(EVERY_CALL))
        self.assertIs(type(given), list)
        for number in given:
            self.assertIs(type(number), int)

    def test_four_hundred_calls(self):
        calls = [tick(1)] * 400
        self.assertEqual(run(calls), [[0, n] for n in range(1, 401)])
        calls = [rack()] * 6 + [draw(label="L" * 12)] * 60 + [tube(59)] * 334
        self.assertEqual(run(calls)[-1], [0, 100, 1000, 59, 12] + [76] * 12)

    def test_four_hundred_refused_calls(self):
        calls = [draw(label=[255] * 27)] * 400
        self.assertEqual(run(calls), [[-2]] * 400)

    def test_the_longest_list(self):
        calls = [rack(8, 12)] + [scan(0, "#" * 1500), plan(0, "\n" * 1500)] * 5 + [find("x" * 40)] * 20 + [rack()]
        ticks, rest = divmod(MOST_NUMBERS - len(joined(calls)), 2)
        calls += [tick(1)] * ticks + [counts()] * rest
        self.assertEqual(len(joined(calls)), MOST_NUMBERS)
        found = run(calls)
        self.assertEqual(found[1:11], [[0] + [0] * 96, [0, 0]] * 5)
        self.assertEqual(found[11:32], [[0, 0]] * 20 + [[0, 1]])
        self.assertIn([0, ticks], found[-2:])

    def test_sixty_of_scan_plan_and_print(self):
        before = [rack(8, 12)] + [empty(label="T" + str(t)) for t in range(60)] + [put(t, 0, t) for t in range(60)]
        sheet = run(before + [print_rack(0)])[-1][2:]
        self.assertEqual(run(before + [print_rack(0)] * 60)[-60:], [[0, len(sheet)] + sheet] * 60)
        many = (MOST_NUMBERS - len(joined(before))) // (3 * (len(sheet) + 3)) * 3
        calls = [scan(0, sheet), plan(0, sheet), print_rack(0)] * (many // 3)
        self.assertEqual(run(before + calls)[-3:], [[0] * 97, [0, 0], [0, len(sheet)] + sheet])
        calls = [scan(0, "A1 T0\nH12 Q"), plan(0, "?"), print_rack(0)] * 20
        scanned = [0, 0] + [1] * 59 + [0] * 35 + [2]
        self.assertEqual(run(before + calls)[-3:], [scanned, [1, 1], [0, len(sheet)] + sheet])

    def test_the_answers_of_the_calls_13_to_24(self):
        calls = [[13, 1, 3, 0], [14, 1], [15, 1], [16, 0], [17, 0], [18, 0, 0], [19, 0, 4, 65, 49, 32, 68], [20, 0, 0]]
        calls += [[20, 0, 1, 63], [21, 1, 69], [22, 0], [23, 1], [24]]
        before = [rack(1, 2), draw(7, 8), empty(), pour(0, 1, 4), tick(3), put(0, 0, 1)]
        self.assertEqual(answers(joined(before + calls))[len(answers(joined(before))):], [
            2, 0, 1, 4, 0, 2, 1, 0, 4, 0, 2, 0, 1, 4, 0, 2, 0, 1, 7, 0, 7, 8, 100, 100, 0, 0, 4, 0, 1, 0, 0, 3, 0, 2, 1,
            1, -7, 2, 1, 1, 3, 0, 1, 1, 7, 0, 5, 65, 50, 32, 68, 10, 6, 0, 0, 1, 0, 1, 4, 6, 0, 3, 1, 1, 2, 2,
        ])

    def test_a_row_of_bytes_is_not_read_as_calls(self):
        for number in (19, 20, 21):
            row = [8, 5, 24, 9, 0]
            given = [number, 0] if number != 21 else [number]
            found = cut(answers(given + [5] + row + [8, 5]))
            self.assertEqual(found, [[0, 0] if number == 21 else [-1], [0, 5]])

    def test_numbers_far_out(self):
        for far in (-FAR, FAR):
            calls = [
                rack(far, far, far), draw(far, far, far, far, far), empty(far, far), pour(far, far, far),
                use(far, far, far), put(far, far, far), take(far, far), arm(far, far, far, far), tick(far),
                throw(far), place(far), tube(far), past(far), fits(far, far, far), back(far), from_tubes(far),
                onto(far), books(far), then(far, far), scan(far), plan(far), print_rack(far), entry(far),
            ]
            self.assertEqual(run(calls), [[-1]] * 23)
