"""The calls 17 books, 21 find, 23 entry, 24 counts."""

from tests.helper import FAR, Case, books, counts, draw, empty, entry, find, pour, put, rack, run, take, throw, tick
from tests.helper import use

FULL_BOOK = [draw(1, 1, 100000, 100000)] + [use(0)] * 199


class BooksCall(Case):
    def test_all_of_it_in_its_tube(self):
        self.check_told([draw(7, 8, 30, 40)], books(0), [0, 7, 8, 30, 30, 0, 0])
        self.check_told([draw(10 ** 9, 10 ** 9, 100000, 100000)], books(0), [0, 10 ** 9, 10 ** 9, 100000, 100000, 0, 0])

    def test_range(self):
        self.check_range([empty(), empty(), draw(), draw()], books, 0, 1)
        self.check_refused([], books(0), -1)
        self.check_refused([empty()], books(0), -1)

    def test_in_several_tubes_used_out_of_several_and_thrown_away(self):
        calls = [draw(3, 4, 100, 100), empty(), empty(), empty(), pour(0, 1, 40), pour(1, 2, 15), pour(0, 3, 10)]
        self.check_told(calls, books(0), [0, 3, 4, 100, 100, 0, 0])
        calls += [use(0, 0, 1), use(1, 20, 2), use(2, 3, 4), use(2, 3, 1)]
        self.check_told(calls, books(0), [0, 3, 4, 100, 92, 8, 0])
        calls += [throw(1)]
        self.check_told(calls, books(0), [0, 3, 4, 100, 69, 8, 23])
        calls += [throw(2), throw(0)]
        self.check_told(calls, books(0), [0, 3, 4, 100, 10, 8, 82])
        self.check_told(calls + [use(3, 0, 10), throw(3)], books(0), [0, 3, 4, 100, 0, 18, 82])

    def test_a_tube_thrown_away_that_is_empty(self):
        used_up = [draw(1, 2, 5, 5), use(0, 0, 5), throw(0)]
        self.check_told(used_up, books(0), [0, 1, 2, 5, 0, 5, 0])
        poured_out = [draw(1, 2, 5, 5), empty(), pour(0, 1, 5), throw(0)]
        self.check_told(poured_out, books(0), [0, 1, 2, 5, 5, 0, 0])
        self.check_told([draw(1, 2, 5, 5), empty(), throw(1)], books(0), [0, 1, 2, 5, 5, 0, 0])

    def test_each_draw_for_itself(self):
        calls = [draw(1, 2, 50), draw(1, 2, 60), empty(), empty(), pour(0, 2, 9), pour(1, 3, 8)]
        calls += [use(2, 1, 3), use(3, 0, 4), use(1, 0, 5), throw(2), throw(1)]
        self.check_told(calls, books(0), [0, 1, 2, 50, 41, 3, 6])
        self.check_told(calls, books(1), [0, 1, 2, 60, 4, 9, 47])

    def test_the_numbers_of_tubes_and_draws_are_apart(self):
        calls = [empty(), draw(1, 1, 10), empty(), draw(2, 2, 20), use(3, 0, 7), throw(1), use(3, 1, 2)]
        self.check_told(calls, books(0), [0, 1, 1, 10, 0, 0, 10])
        self.check_told(calls, books(1), [0, 2, 2, 20, 11, 9, 0])

    def test_in_every_place(self):
        calls = [rack(kind=2), draw(1, 1, 10), put(0), draw(2, 2, 20), tick(9)]
        self.check_told(calls, books(0), [0, 1, 1, 10, 10, 0, 0])
        self.check_told(calls + [throw(0)], books(0), [0, 1, 1, 10, 0, 0, 10])

    def test_a_full_book(self):
        self.check_told(FULL_BOOK, books(0), [0, 1, 1, 100000, 99801, 199, 0])


class FindCall(Case):
    TUBES = [draw(label="A"), empty(label="B"), empty(label="A"), draw(label="AA"), draw(label="a"), empty(label="A")]

    def test_the_tubes_with_that_label_rising(self):
        self.check_told(self.TUBES, find("A"), [0, 3, 0, 2, 5])
        self.check_told(self.TUBES, find("B"), [0, 1, 1])
        self.check_told(self.TUBES, find("AA"), [0, 1, 3])
        self.check_told(self.TUBES, find("a"), [0, 1, 4])

    def test_none(self):
        self.check_told(self.TUBES, find("AAA"), [0, 0])
        self.check_told([], find("A"), [0, 0])

    def test_what_is_no_label(self):
        for label in ("", "A" * 13, "A" * 40, "A ", " A", "A\n", [0], [255] * 40, [65, 0]):
            self.check_told(self.TUBES, find(label), [0, 0])

    def test_in_every_place(self):
        calls = [rack()] + self.TUBES + [put(0), take(2, 9), throw(5)]
        self.check_told(calls, find("A"), [0, 3, 0, 2, 5])

    def test_the_label_of_a_rack_is_not_found(self):
        self.check_told([rack(label="R"), empty(label="T")], find("R"), [0, 0])

    def test_twelve_bytes(self):
        calls = [empty(label="ABCDEFGHIJKL"), empty(label="ABCDEFGHIJKM")]
        self.check_told(calls, find("ABCDEFGHIJKM"), [0, 1, 1])
        self.check_told(calls, find("ABCDEFGHIJK"), [0, 0])
        self.check_told(calls, find("ABCDEFGHIJKLM"), [0, 0])

    def test_sixty(self):
        self.check([empty(label="T")] * 60 + [find("T")], [0, 60] + list(range(60)))


class EntryCall(Case):
    ALL = [
        tick(4), empty(), draw(11, 12, 30, 40), tick(1), pour(1, 0, 7), use(0, 20, 3), tick(10), throw(0), throw(1),
    ]

    def test_each_kind(self):
        answers = [[0, 4, 0, 0, 1, 30], [0, 5, 1, 1, 0, 7], [0, 5, 2, 0, 20, 3], [0, 15, 3, 0, 4], [0, 15, 3, 1, 23]]
        for e, answer in enumerate(answers):
            self.check_told(self.ALL, entry(e), answer)

    def test_a_tube_thrown_away_that_is_empty(self):
        self.check_told([empty(), throw(0)], entry(0), [0, 0, 3, 0, 0])

    def test_range(self):
        self.check_range(self.ALL, entry, 0, 4)
        self.check_range(FULL_BOOK, entry, 0, 199)
        self.check_refused([], entry(0), -1)
        self.check_refused([rack(), empty(), tick(1)], entry(0), -1)

    def test_moves_minutes_and_refused_calls_are_no_entries(self):
        calls = [rack(), draw(), put(0), take(0), tick(1), use(0, 21), pour(0, 0), throw(5), draw(amount=0)]
        self.check_refused(calls, entry(1), -1)
        self.check_told(calls + [use(0, 3, 2)], entry(1), [0, 1, 2, 0, 3, 2])

    def test_the_last_of_a_full_book(self):
        calls = FULL_BOOK[:-1] + [tick(9), throw(0), draw(), entry(199)]
        self.assertEqual(run(calls)[-2:], [[-6], [0, 9, 3, 0, 99802]])


class CountsCall(Case):
    def test_nothing(self):
        self.check_told([], counts(), [0, 0, 0, 0, 0, 0])

    def test_each_is_counted(self):
        calls = [rack(), rack(), draw(), empty(), empty(), draw(), draw(), pour(0, 1), use(1), throw(2), tick(9)]
        self.check_told(calls, counts(), [0, 9, 2, 3, 5, 6])

    def test_refused_calls_count_nothing(self):
        calls = [rack(0), rack(label=""), draw(person=0), draw(amount=2, capacity=1), empty(0), tick(0), tick(FAR)]
        calls += [pour(0, 1), use(0), throw(0)]
        self.check_told(calls, counts(), [0, 0, 0, 0, 0, 0])

    def test_the_most_of_each(self):
        calls = [rack()] * 7 + [draw()] * 61 + [use(0)] * 100 + [use(1)] * 41 + [tick(100000)] * 11
        self.assertEqual(run(calls + [counts()])[-1], [0, 1000000, 6, 60, 60, 200])

    def test_moves_count_nothing(self):
        calls = [rack(), draw(), put(0), take(0, 3)]
        self.check_told(calls, counts(), [0, 0, 1, 1, 1, 1])
