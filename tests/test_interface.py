"""How a list of calls is read, and how the answers stand in the list that is given back."""

from tests.helper import FAR, Case, arm, draw, empty, joined, past, place, pour, put, rack, run, take, throw, tick
from tests.helper import tube, use
from tubebook.custody import answers

EVERY_CALL = [
    rack(), draw(), empty(), pour(0, 1, 4), use(0), put(0), take(0), put(0), arm(0, 0, 0, 1), tick(3), throw(0),
    place(0), tube(0), past(0), rack(0), draw(0), empty(0), pour(9, 9), use(9), put(9), take(9), arm(9, 0, 0, 0),
    tick(0), throw(9), place(9), tube(9), past(9),
]


class Interface(Case):
    def test_the_list_that_is_given_back(self):
        calls = [0, 1, 1, 2, 1, 70, 1, 5, 6, 10, 20, 3, 2, 97, 45, 4, 0, 0, 4, 11, 0, 10, 7, 10, 0]
        self.assertEqual(answers(calls), [2, 0, 0, 3, 0, 0, 0, 2, 0, 6, 7, 0, 6, 20, 0, 2, 97, 45, 1, -1, 4, 0, 1, 3, 0])

    def test_one_call(self):
        self.assertEqual(answers([8, 5]), [2, 0, 5])
        self.assertEqual(answers([8, 0]), [1, -1])

    def test_what_stands_behind_a_refused_label_is_read(self):
        for length in (0, 1, 13, 40):
            label = [8] * length
            calls = [[0, 1, 1, 0, length] + label, [1, 1, 1, 1, 1, 0, length] + label, [2, 1, 0, length] + label]
            self.assertEqual(run(calls + [tick(2)]), [[-2], [-2], [-2], [0, 2]])

    def test_what_stands_behind_every_refused_call_is_read(self):
        for call in EVERY_CALL:
            self.assertEqual(run([call, tick(2)])[1], [0, 5] if call[0] == 8 and call[1] == 3 else [0, 2])

    def test_the_list_that_is_handed_in_is_as_it_was(self):
        calls = joined(EVERY_CALL)
        kept = list(calls)
        answers(calls)
        self.assertEqual(calls, kept)

    def test_the_list_that_is_given_back_is_free(self):
        calls = joined(EVERY_CALL)
        first = answers(calls)
        kept = list(first)
        first.clear()
        self.assertEqual(answers(calls), kept)

    def test_nothing_is_kept(self):
        calls = joined(EVERY_CALL)
        first = answers(calls)
        answers(joined([rack()] * 6 + [draw()] * 60 + [tick(100000)] * 10))
        self.assertEqual(answers(calls), first)

    def test_whole_numbers_alone(self):
        given = answers(joined(EVERY_CALL))
        self.assertIs(type(given), list)
        for number in given:
            self.assertIs(type(number), int)

    def test_four_hundred_calls(self):
        calls = [tick(1)] * 400
        self.assertEqual(run(calls), [[0, n] for n in range(1, 401)])
        calls = [rack()] * 6 + [draw(label="L" * 12)] * 60 + [tube(59)] * 334
        self.assertEqual(run(calls)[-1], [0, 100, 1000, 59, 12] + [76] * 12)

    def test_four_hundred_refused_calls(self):
        calls = [draw(label=[255] * 27)] * 400
        self.assertEqual(run(calls), [[-2]] * 400)

    def test_the_calls_that_are_not_built_yet(self):
        for number in range(13, 25):
            with self.assertRaises(NotImplementedError):
                answers([8, 5, number, 0, 0, 0])

    def test_numbers_far_out(self):
        for far in (-FAR, FAR):
            calls = [
                rack(far, far, far), draw(far, far, far, far, far), empty(far, far), pour(far, far, far),
                use(far, far, far), put(far, far, far), take(far, far), arm(far, far, far, far), tick(far),
                throw(far), place(far), tube(far), past(far),
            ]
            self.assertEqual(run(calls), [[-1]] * 13)
