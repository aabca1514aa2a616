"""What is asked of a book up to a day: promise [29], and [2] as far as it speaks of it."""

import unittest

import plain
from yarnback.book import Book
from yarnback.sheets import Sheet
from yarnback.spans import Span


def long_book():
    """Told in no order of days."""
    book = Book()
    book.give("red", "bob", 10, 4, waste=2)
    book.give("red", "ann", 20, 1, slack=1, waste=1)
    book.give("red", "ann", 5, 3, waste=1)
    book.give("blue", "ann", 7, 2)
    book.take("red", "rug", 12, (("ann", 4),), 2, slack=2)
    book.take("red", "hat", 9, (("bob", 3), ("ann", 1), ("bob", 1)), 4, oil=Span(5, 10))
    book.take("blue", "cap", 3, (("ann", 2),), 4)
    book.sew("rug", "cap", 4, 2, True)
    book.cut("rug", 3, "end", 4, 5)
    book.sew("hat", "end", 6)
    book.fault("rug", 5, 1, 4, 2)
    book.fault("end", 0, 1, 4, 5)
    book.fault("hat", 4, 1, 5)
    book.fault("hat", 5, 1, 6)
    book.fault("hat", 3, 1, 7, 1)
    return book


def texts(bolts):
    return {name: str(bolt) for name, bolt in bolts.items()}


class SheetTest(unittest.TestCase):
    def test_all_days(self):
        sheet = long_book().sheet("red")
        self.assertIsInstance(sheet, Sheet)
        self.assertEqual(sheet.homes(), ["ann", "bob"])
        self.assertEqual((sheet.got("ann"), sheet.waste("ann")), (Span(24, 26), 2))
        self.assertEqual((sheet.got("bob"), sheet.waste("bob")), (Span(10), 2))
        self.assertEqual(sheet.pieces(), ["rug", "hat"])
        self.assertEqual((sheet.yarn("rug"), sheet.makers("rug")), (Span(10, 14), ["ann"]))
        self.assertEqual((sheet.yarn("hat"), sheet.makers("hat")), (Span(9), ["bob", "ann"]))
        self.assertEqual(long_book().sheet(lot="red", day=None).pieces(), ["rug", "hat"])

    def test_up_to_a_day(self):
        book = long_book()
        told = {day: (book.sheet("red", day).homes(), book.sheet("red", day).pieces()) for day in range(6)}
        self.assertEqual(told, {0: ([], []), 1: (["ann"], []), 2: (["ann"], ["rug"]), 3: (["ann"], ["rug"]),
                                4: (["ann", "bob"], ["rug", "hat"]), 5: (["ann", "bob"], ["rug", "hat"])})
        self.assertEqual(str(book.sheet("red", 2).got("ann")), "19 to 21")
        self.assertEqual(str(book.sheet("red", day=3).got("ann")), "24 to 26")
        self.assertEqual([book.sheet("red", day).waste("ann") for day in (1, 2, 3)], [1, 1, 2])

    def test_other_lots(self):
        book = long_book()
        self.assertEqual((book.sheet("blue").homes(), book.sheet("blue").pieces()), (["ann"], ["cap"]))
        self.assertEqual(str(book.sheet("blue").got("ann")), "7")
        for lot in ("green", "rug", "ann", "re", "redd"):
            self.assertEqual((book.sheet(lot).homes(), book.sheet(lot).pieces()), ([], []))
            self.assertEqual(book.sheet(lot, 3).homes(), [])

    def test_oil_and_slack(self):
        book = Book()
        book.give("red", "ann", 100, 1, slack=7)
        book.take("red", "rug", 100, (("ann", 1),), 1, slack=20, oil=Span(5, 10))
        book.take("red", "hat", 3, (("ann", 1),), 1, slack=5)
        sheet = book.sheet("red")
        self.assertEqual((sheet.got("ann"), sheet.yarn("rug"), sheet.yarn("hat")),
                         (Span(93, 107), Span(73, 115), Span(0, 8)))

    def test_pieces_in_the_order_of_days_and_texts(self):
        book = Book()
        book.give("red", "ann", 100, 1)
        for piece, drams, day in (("bb", 5, 2), ("aa", 10, 2), ("ac", 9, 2), ("zz", 1, 1), ("ab", 1, 3)):
            book.take("red", piece, drams, (("ann", 1),), day)
        self.assertEqual(book.sheet("red").pieces(), ["zz", "aa", "ac", "bb", "ab"])


class BoltsTest(unittest.TestCase):
    def test_all_days(self):
        told = {"rug": "rug 0-2", "hat": "hat 0-4; rug 3; cap 1-0"}
        self.assertEqual(texts(long_book().bolts()), told)
        self.assertEqual(texts(long_book().bolts(day=None, hour=None)), told)
        self.assertEqual(texts(long_book().bolts(99)), told)

    def test_up_to_a_day(self):
        book = long_book()
        self.assertEqual(texts(book.bolts(0)), {})
        self.assertEqual(texts(book.bolts(1)), {})
        self.assertEqual(texts(book.bolts(2)), {"rug": "rug 0-3"})
        self.assertEqual(texts(book.bolts(day=3)), {"rug": "rug 0-3"})
        self.assertEqual(texts(book.bolts(4)), {"rug": "rug 0-2", "end": "rug 3; cap 1-0", "hat": "hat 0-4"})
        self.assertEqual(texts(book.bolts(5)), texts(book.bolts(4)))
        self.assertEqual(texts(book.bolts(6)), texts(book.bolts()))

    def test_up_to_an_hour(self):
        book = long_book()
        whole = {"rug": "rug 0-3", "hat": "hat 0-4", "cap": "cap 0-1"}
        sewn = {"rug": "rug 0-3; cap 1-0", "hat": "hat 0-4"}
        self.assertEqual(texts(book.bolts(4, 0)), whole)
        self.assertEqual(texts(book.bolts(4, 1)), whole)
        self.assertEqual(texts(book.bolts(4, 2)), sewn)
        self.assertEqual(texts(book.bolts(day=4, hour=4)), sewn)
        self.assertEqual(texts(book.bolts(4, 5)), texts(book.bolts(4)))
        self.assertEqual(texts(book.bolts(4, 99)), texts(book.bolts(4)))
        self.assertEqual(texts(book.bolts(5, 0)), texts(book.bolts(4)))
        self.assertEqual(texts(book.bolts(6, 0)), texts(book.bolts(6)))
        self.assertEqual(texts(book.bolts(3, 99)), texts(book.bolts(3)))

    def test_the_hour_0(self):
        book = Book()
        book.give("red", "ann", 9, 1)
        book.take("red", "rug", 9, (("ann", 9),), 1)
        book.cut("rug", 4, "end", 1)
        book.cut("rug", 2, "mid", 1, 1)
        self.assertEqual(texts(book.bolts(1, 0)), {"rug": "rug 0-3", "end": "rug 4-8"})
        self.assertEqual(texts(book.bolts(1, 1)), {"rug": "rug 0-1", "mid": "rug 2-3", "end": "rug 4-8"})

    def test_cut_and_sewn_again(self):
        book = Book()
        book.give("red", "ann", 9, 1)
        book.take("red", "rug", 9, (("ann", 9),), 1)
        book.cut("rug", 4, "end", 2)
        book.sew("end", "rug", 3, turned=True)
        book.cut("end", 6, "rest", 4)
        book.sew("rest", "end", 5)
        self.assertEqual(texts(book.bolts(3)), {"end": "rug 4-8; rug 3-0"})
        self.assertEqual(texts(book.bolts(4)), {"end": "rug 4-8; rug 3", "rest": "rug 2-0"})
        self.assertEqual(texts(book.bolts()), {"rest": "rug 2-0; rug 4-8; rug 3"})


class BlameTest(unittest.TestCase):
    def test_all_days(self):
        # cap 0 of ann; rug 3 of ann; hat 4 of bob; rug 3 of ann; hat 3 of ann.
        self.assertEqual(long_book().blame(), {"ann": 4, "bob": 1})
        self.assertEqual(long_book().blame(day=None), {"ann": 4, "bob": 1})

    def test_up_to_a_day(self):
        book = long_book()
        self.assertEqual([book.blame(day) for day in range(3, 9)],
                         [{}, {"ann": 2}, {"ann": 2, "bob": 1}, {"ann": 3, "bob": 1}, {"ann": 4, "bob": 1},
                          {"ann": 4, "bob": 1}])
        self.assertEqual(book.blame(day=5), {"ann": 2, "bob": 1})

    def test_each_by_its_own_hour(self):
        book = Book()
        book.give("red", "ann", 9, 1)
        book.give("red", "bob", 9, 1)
        book.take("red", "rug", 3, (("ann", 2),), 1)
        book.take("red", "hat", 3, (("bob", 2),), 1)
        book.fault("rug", 1, 5, 1, 3)
        book.cut("rug", 1, "end", 1, 4)
        book.sew("rug", "hat", 1, 5)
        book.fault("rug", 1, 5, 1, 5)
        book.fault("rug", 1, 5, 2)
        self.assertEqual(book.blame(), {"ann": 1, "bob": 2})
        self.assertEqual(book.blame(1), {"ann": 1, "bob": 1})

    def test_a_fault_that_could_not_be_in_its_hour(self):
        book = Book()
        book.give("red", "ann", 9, 1)
        book.give("red", "bob", 9, 1)
        book.take("red", "rug", 3, (("ann", 2),), 1)
        book.take("red", "hat", 3, (("bob", 2),), 1)
        book.sew("rug", "hat", 1, 4)
        book.fault("rug", 2, 5, 1, 4)
        book.fault("rug", 3, 5, 1, 5)
        book.cut("rug", 1, "end", 1, 6)
        book.fault("end", 0, 5, 1, 6)
        book.fault("end", 1, 5, 1, 6)
        book.fault("rug", 0, 5, 1, 6)
        self.assertEqual(book.blame(), {"bob": 3, "ann": 2})

    def test_sewings_told_late_count_as_if_told_in_time(self):
        book = Book()
        for home, piece, ells in (("ann", "rug", 4), ("bob", "hat", 2), ("cleo", "cap", 2)):
            book.give("red", home, 9, 1)
            book.take("red", piece, 3, ((home, ells),), 1)
        book.sew("rug", "hat", 5)
        book.fault("rug", 4, 1, 9)
        self.assertEqual(book.blame(), {"bob": 1})
        number = book.sew("rug", "cap", 3)
        self.assertEqual(book.blame(), {"cleo": 1})
        book.drop(number)
        self.assertEqual(book.blame(), {"bob": 1})
        book.sew("rug", "cap", 7)
        self.assertEqual(book.blame(), {"bob": 1})

    def test_against_the_plain_book(self):
        records = long_book().records()
        for day in (None, *range(9)):
            self.assertEqual(long_book().blame(day), plain.blame_of(records, day))


if __name__ == "__main__":
    unittest.main()
