"""Books written and read: promise [32], and [2] and [3] as far as they speak of it."""

import itertools
import random
import unittest

import plain
from yarnback.book import Book
from yarnback.errors import Broken, NoRow
from yarnback.logs import read_book, show_book
from yarnback.spans import Span

ROWS = [
    "advance ann 5 day=0",
    "give red ann 20 day=1 slack=1 waste=1",
    "give red bob 10 day=1",
    "take red hat 2 bob*3 day=2 oil=3-5",
    "take red rug 24 ann*4+bob*2 day=2",
    "pay hat 3 day=3",
    "sew rug hat day=3",
    "fault rug 7 2 day=3 hour=1",
    "cut rug 5 end day=3 hour=10",
    "fault end 1 5 day=4 hour=9",
]


class ShownTest(unittest.TestCase):
    def test_an_empty_book(self):
        self.assertEqual(show_book(Book()), "")
        self.assertEqual(show_book(book=Book()), "")

    def test_rows_in_order(self):
        book = Book()
        book.give("red", "bob", 10, 1)
        book.give("red", "ann", 20, 1, 1, 1)
        book.take("red", "rug", 24, (("ann", 4), ("bob", 2)), 2)
        book.take("red", "hat", 2, (("bob", 3),), 2, oil=Span(3, 5))
        book.sew("rug", "hat", 3)
        book.cut("rug", 5, "end", 3, 10)
        book.fault("end", 1, 5, 4, 9)
        book.fault("rug", 7, 2, 3, 1)
        book.pay("hat", 3, 3)
        book.advance("ann", 5, 0)
        self.assertEqual(show_book(book), "\n".join(ROWS))

    def test_a_single_row(self):
        book = Book()
        book.advance("ann", 5, 3)
        self.assertEqual(show_book(book), "advance ann 5 day=3")


class ReadTest(unittest.TestCase):
    def test_an_empty_one(self):
        for book in (read_book(""), read_book(text="", price=5)):
            self.assertIsInstance(book, Book)
            self.assertEqual((len(book), book.records(), show_book(book)), (0, [], ""))
            self.assertEqual(book.advance("ann", 1, 1), 0)

    def test_a_book_written_and_read_is_the_book(self):
        text = "\n".join(ROWS)
        book = read_book(text)
        self.assertEqual(show_book(book), text)
        self.assertEqual(len(book), 10)
        self.assertEqual([plain.row_of(record) for record in book.records()], ROWS)
        self.assertEqual({name: str(bolt) for name, bolt in book.bolts().items()},
                         {"rug": "rug 0-4", "end": "rug 5; hat 0-2"})
        self.assertEqual(book.blame(), {"bob": 2})

    def test_rows_in_any_turn(self):
        chance = random.Random(32)
        for _ in range(100):
            rows = chance.sample(ROWS, len(ROWS))
            self.assertEqual(show_book(read_book("\n".join(rows))), "\n".join(ROWS))

    def test_rows_written_otherwise(self):
        book = read_book("give red ann 20 day=1 waste=1 slack=1\npay rug 1 day=1\n"
                         "take red rug 3 ann*2 day=1 oil=3 slack=0\ncut rug 1 end day=2 hour=0")
        self.assertEqual(show_book(book), "give red ann 20 day=1 slack=1 waste=1\npay rug 1 day=1\n"
                                          "take red rug 3 ann*2 day=1 oil=3\ncut rug 1 end day=2")

    def test_the_price(self):
        text = "give red ann 20 day=1 waste=3"
        self.assertEqual([read_book(text, price).account("ann").pence for price in (0, 1, 7)], [0, -17, -119])
        self.assertEqual(read_book(text).account("ann").pence, -17)
        self.assertEqual(read_book(price=2, text=text).account("ann").pence, -34)

    def test_numbers_by_rows(self):
        rows = ["fault rug 1 3 day=4", "pay rug 5 day=3", "take red rug 3 ann*2 day=2", "give red ann 20 day=1"]
        for turn in itertools.permutations(rows):
            book = read_book("\n".join(turn))
            self.assertEqual(book.advance("ann", 1, 9), 4)
            book.drop(turn.index("fault rug 1 3 day=4"))
            self.assertEqual(book.blame(), {})
            book.drop(turn.index("pay rug 5 day=3"))
            self.assertEqual([record[0] for record in book.records()], ["give", "take", "advance"])

    def test_equal_rows_have_numbers_of_their_own(self):
        book = read_book("advance ann 1 day=1\nadvance ann 1 day=1\nadvance bob 1 day=0")
        self.assertEqual(len(book), 3)
        book.drop(1)
        book.drop(0)
        self.assertEqual(show_book(book), "advance bob 1 day=0")

    def test_a_read_book_goes_on_as_others(self):
        book = read_book("\n".join(ROWS))
        with self.assertRaises(Broken):
            book.drop(1)
        self.assertEqual(book.sew("rug", "end", 9), 10)
        self.assertEqual(str(book.bolts()["rug"]), "rug 0-5; hat 0-2")

    def test_books_read_stand_apart(self):
        one, other = read_book("\n".join(ROWS)), read_book("\n".join(ROWS))
        one.drop(0)
        self.assertEqual((len(one), len(other)), (9, 10))


class NoRowTest(unittest.TestCase):
    def check(self, row, rows):
        text = rows if isinstance(rows, str) else "\n".join(rows)
        with self.assertRaises(NoRow) as caught:
            read_book(text)
        self.assertIs(type(caught.exception), NoRow)
        self.assertEqual(vars(caught.exception), {"row": row})

    def test_no_records_row(self):
        for wrong in ("", " ", "x", "advance ann 5", "advance Ann 5 day=0", "advance ann 05 day=0", "drop 1", "log",
                      "advance ann 5 day=0 ", " advance ann 5 day=0", "advance ann 5 day=0 hour=0"):
            for at in range(len(ROWS) + 1):
                self.check(at, ROWS[:at] + [wrong] + ROWS[at:])
            self.check(3, ROWS[:3] + [wrong] + ROWS[3:6] + [wrong] + ROWS[6:])

    def test_line_feeds(self):
        self.check(1, "advance ann 5 day=0\n")
        self.check(10, "\n".join(ROWS) + "\n")
        self.check(10, "\n".join(ROWS) + "\n\n")
        self.check(0, "\n" + "\n".join(ROWS))
        self.check(0, "\n")
        self.check(4, "\n".join(ROWS[:4]) + "\n\n" + "\n".join(ROWS[4:]))

    def test_other_line_ends(self):
        for sign in ("\r\n", "\r", "\x0b", "\x0c", "\u2028", "\x85"):
            self.check(0, "advance ann 5 day=0" + sign + "advance bob 5 day=0")

    def test_numbers(self):
        self.check(2, [ROWS[1], ROWS[2], "take red cap 2 ann*0 day=2", *ROWS[3:]])
        self.check(1, [ROWS[1], "take red cap 3 ann*1 day=2 oil=100", *ROWS[3:]])
        self.check(0, ["take red cap 3 zed*0 day=2"])

    def test_names_that_are_taken(self):
        self.check(10, [*ROWS, "take red hat 2 bob*3 day=9"])
        self.check(4, ["take red end 2 ann*1 day=2", *ROWS[1:3], ROWS[4], ROWS[8]])
        self.check(10, [*ROWS, "cut rug 1 hat day=9"])
        self.check(5, [*ROWS[:5], ROWS[4], *ROWS[5:]])
        self.check(1, ["take red rug 1 zed*1 day=9", "take blue rug 2 zed*2 day=1"])

    def test_hours_that_are_used(self):
        self.check(10, [*ROWS, "cut rug 1 tail day=3 hour=10"])
        self.check(10, [*ROWS, "sew rug end day=3"])
        self.check(1, ["sew a b day=3 hour=2", "cut c 1 d day=3 hour=2"])

    def test_the_first_row_each_way(self):
        wrong = ["x", "take red cap 2 ann*0 day=2", "take red hat 2 bob*3 day=9", "cut rug 1 tail day=3 hour=10"]
        for one, other in itertools.permutations(wrong, 2):
            self.check(10, [*ROWS, one, other])
            self.check(11, [*ROWS, "pay hat 1 day=9", one, ROWS[0], other])

    def test_then_what_can_not_be(self):
        # The first in the order of days, hours and texts, whatever its row.
        self.check(0, ["pay rug 1 day=1"])
        self.check(1, ["pay rug 1 day=2", "pay rug 1 day=1"])
        self.check(2, ["pay rug 9 day=1", "fault rug 0 1 day=1", "pay rug 10 day=1"])
        self.check(1, ["fault rug 0 1 day=1 hour=3", "fault rug 0 1 day=1 hour=2", "fault rug 0 1 day=1 hour=10"])
        self.check(3, [*ROWS[1:4], "take red rug 24 cleo*4 day=2"])
        self.check(0, ["take red rug 24 ann*4 day=0", *ROWS[:4]])
        rows = [row for row in ROWS if not row.startswith("sew")]
        self.check(rows.index("fault rug 7 2 day=3 hour=1"), rows)
        for turn in itertools.islice(itertools.permutations(rows), 0, 362880, 7919):
            self.check(turn.index("fault rug 7 2 day=3 hour=1"), turn)

    def test_refusals_of_one_row_go_ahead_of_what_can_not_be(self):
        self.check(1, ["pay rug 1 day=1", "x"])
        self.check(2, ["pay rug 1 day=1", "cut a 1 b day=1", "cut a 1 c day=1"])
        self.check(2, ["pay rug 1 day=1", "fault rug 1 1 day=1", "take red cap 2 ann*0 day=2"])

    def test_of_equal_records_the_first(self):
        self.check(0, ["pay rug 1 day=1", "pay rug 1 day=1"])
        self.check(1, ["pay rug 1 day=2", "pay rug 1 day=1", "pay rug 1 day=1"])
        self.check(1, ["pay rug 1 day=2", "fault rug 1 1 day=1 hour=0", "fault rug 1 1 day=1"])
        self.check(2, ["advance ann 1 day=1", "advance ann 1 day=1", "pay rug 1 day=1", "advance ann 1 day=1"])

    def test_a_piece_of_a_take_that_can_not_be_is_in(self):
        self.check(1, ["pay rug 1 day=2", "take red rug 1 ann*2 day=2"])
        self.check(2, ["fault rug 1 1 day=2", "cut rug 1 end day=3", "take red rug 1 ann*2 day=2"])


class AnyTest(unittest.TestCase):
    def test_against_the_plain_book(self):
        """Any rows, told all together."""
        chance = random.Random(33)
        homes, pieces = "ab", "pqrs"
        told = {True: 0, False: 0}
        for _ in range(1500):
            records = [("give", "x", home, 9, chance.randint(0, 2), 0, 0) for home in homes if chance.random() < 0.9]
            for piece in pieces:
                if chance.random() < 0.8:
                    records.append(("take", "x", piece, 3, ((chance.choice(homes), chance.randint(1, 5)),),
                                    chance.randint(1, 3), 0, None))
            hours = chance.sample([(day, hour) for day in range(1, 4) for hour in range(3)], chance.randint(0, 3))
            for at, (day, hour) in enumerate(hours):
                one, other = chance.sample(pieces, 2)
                records.append(chance.choice([("sew", one, other, day, hour, chance.random() < 0.5),
                                              ("cut", one, chance.randint(1, 3), "uvw"[at], day, hour)]))
            for _ in range(chance.randint(0, 2)):
                records.append(("fault", chance.choice(pieces + "uv"), chance.randint(0, 4), 1, chance.randint(1, 3),
                                chance.randint(0, 2)))
                records.append(("pay", chance.choice(pieces), 1, chance.randint(1, 3)))
            chance.shuffle(records)
            broken = plain.first_broken(records)
            told[broken is None] += 1
            text = "\n".join(plain.row_of(record) for record in records)
            if broken is not None:
                with self.assertRaises(NoRow) as caught:
                    read_book(text)
                self.assertEqual(caught.exception.row, records.index(broken))
                continue
            book = read_book(text)
            self.assertEqual(book.records(), plain.in_order(records))
            self.assertEqual(show_book(book), "\n".join(plain.row_of(record) for record in plain.in_order(records)))
            self.assertEqual(book.blame(), plain.blame_of(records))
        self.assertGreater(min(told.values()), 40)


if __name__ == "__main__":
    unittest.main()
