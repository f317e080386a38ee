"""What is written down: the entries of the book, and what a draw keeps."""

import unittest

from tubebook.book import Book
from tubebook.making import make_draw, make_empty, make_rack
from tubebook.moving import arm, put, take, tick
from tubebook.using import pour, throw, use


class Entries(unittest.TestCase):
    def setUp(self):
        self.book = Book()
        make_rack(self.book, 1, 2, 0, [65])
        tick(self.book, 4)
        make_empty(self.book, 50, 0, [65])
        make_draw(self.book, 11, 12, 30, 40, 0, [65])

    def test_each_kind_with_its_minute(self):
        tick(self.book, 1)
        pour(self.book, 1, 0, 7)
        use(self.book, 0, 20, 3)
        tick(self.book, 10)
        throw(self.book, 0)
        self.assertEqual(self.book.entries, [(4, 0, 0, 1, 30), (5, 1, 1, 0, 7), (5, 2, 0, 20, 3), (15, 3, 0, 4)])

    def test_moves_and_minutes_are_no_entries(self):
        for answer in (put(self.book, 1, 0, 0), arm(self.book, 0, 0, 0, 1), take(self.book, 1, 3), tick(self.book, 2)):
            self.assertEqual(answer[0], 0)
        self.assertEqual(len(self.book.entries), 1)

    def test_refused_calls_are_no_entries(self):
        for answer in (pour(self.book, 0, 1, 1), use(self.book, 1, 0, 31), throw(self.book, 2)):
            self.assertLess(answer[0], 0)
        self.assertEqual(len(self.book.entries), 1)

    def test_a_refused_draw_is_not_kept(self):
        while len(self.book.tubes) < 60:
            make_empty(self.book, 1, 0, [65])
        self.assertEqual(make_draw(self.book, 1, 1, 1, 1, 0, [65]), [-6])
        self.assertEqual((len(self.book.draws), len(self.book.tubes), len(self.book.entries)), (1, 60, 1))

    def test_a_draw_keeps_what_it_was(self):
        use(self.book, 1, 0, 5)
        kept = self.book.draws[0]
        self.assertEqual((kept.person, kept.order, kept.amount, kept.minute), (11, 12, 30, 4))
        self.assertEqual(len(self.book.draws), 1)

    def test_a_rack_keeps_what_it_was(self):
        kept = self.book.racks[0]
        self.assertEqual((kept.label, kept.rows, kept.columns, kept.kind), ([65], 1, 2, 0))
