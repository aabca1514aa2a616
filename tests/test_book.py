"""The book's records: promises [26], [27], [28], and [2] and [3] as far as they speak of them."""

import random
import unittest

import plain
from yarnback import errors
from yarnback.book import Book
from yarnback.errors import Broken, NoName, NoNumber, NoRecord, SameHour, Taken
from yarnback.spans import Span

GREAT = 999999999999999
NO_NAMES = ["", "A", "Ann", "ann1", "an n", "ann ", "abcdefghijklm", "\u00e4nn", "ann\n", "a-b", 0, 1, -1, True, False,
            None, 1.5, b"ann", [], ["ann"], ("ann",), {}, {"ann": 1}, Span(1), object(), str]


def told(book):
    """All that a book tells, written out."""
    return repr((len(book), book.records(), {name: str(bolt) for name, bolt in book.bolts().items()}, book.blame()))


def small_book():
    book = Book()
    book.give("red", "ann", 20, 1)
    book.give("red", "bob", 10, 1)
    book.take("red", "rug", 24, (("ann", 4), ("bob", 2)), 2)
    book.take("red", "hat", 2, (("bob", 3),), 2)
    return book


class RefusedTest(unittest.TestCase):
    def check(self, refusal, fields, book, method, *things, **more):
        before = told(book)
        with self.assertRaises(refusal) as caught:
            getattr(book, method)(*things, **more)
        self.assertIs(type(caught.exception), refusal)
        self.assertEqual(vars(caught.exception), fields)
        self.assertEqual(told(book), before)

    def check_broken(self, record, book, method, *things, **more):
        self.check(Broken, {"record": record}, book, method, *things, **more)


class ToldTest(unittest.TestCase):
    def test_each_record_by_places(self):
        book = Book()
        numbers = [
            book.give("red", "ann", 20, 1, 2, 3),
            book.give("red", "bob", 10, 1),
            book.take("red", "rug", 24, (("ann", 4), ("bob", 2)), 2, 1, Span(3, 5)),
            book.take("red", "hat", 2, [("bob", 3)], 2),
            book.sew("rug", "hat", 3, 4, True),
            book.cut("rug", 5, "end", 3, 6),
            book.fault("end", 1, 7, 3, 6),
            book.pay("rug", 31, 5),
            book.advance("cleo", 9, 0),
        ]
        self.assertEqual(numbers, list(range(9)))
        self.assertEqual(len(book), 9)
        self.assertEqual(book.records(), [
            ("advance", "cleo", 9, 0),
            ("give", "red", "ann", 20, 1, 2, 3),
            ("give", "red", "bob", 10, 1, 0, 0),
            ("take", "red", "hat", 2, (("bob", 3),), 2, 0, None),
            ("take", "red", "rug", 24, (("ann", 4), ("bob", 2)), 2, 1, Span(3, 5)),
            ("sew", "rug", "hat", 3, 4, True),
            ("cut", "rug", 5, "end", 3, 6),
            ("fault", "end", 1, 7, 3, 6),
            ("pay", "rug", 31, 5),
        ])

    def test_each_record_by_names(self):
        book = Book(price=3)
        numbers = [
            book.give(lot="red", home="ann", drams=20, day=1, slack=2, waste=3),
            book.give(waste=0, slack=0, day=1, drams=10, home="bob", lot="red"),
            book.take(lot="red", piece="rug", drams=24, weaving=(("ann", 4), ("bob", 2)), day=2, slack=1, oil=Span(3)),
            book.take("red", "hat", 2, day=2, weaving=(("bob", 3),), oil=None),
            book.sew(bolt="rug", other="hat", day=3, hour=4, turned=True),
            book.cut(bolt="rug", at=5, rest="end", day=3, hour=6),
            book.fault(bolt="end", ell=1, pence=7, day=3, hour=6),
            book.pay(piece="rug", pence=31, day=5),
            book.advance(home="cleo", pence=9, day=0),
        ]
        self.assertEqual(numbers, list(range(9)))
        self.assertEqual(book.records()[4], ("take", "red", "rug", 24, (("ann", 4), ("bob", 2)), 2, 1, Span(3)))
        self.assertEqual(book.records()[5:8], [("sew", "rug", "hat", 3, 4, True), ("cut", "rug", 5, "end", 3, 6),
                                               ("fault", "end", 1, 7, 3, 6)])

    def test_what_is_not_told(self):
        book = small_book()
        book.cut("rug", 1, "end", 3)
        book.sew("rug", "hat", 4)
        book.fault("rug", 0, 5, 4)
        self.assertEqual(book.records()[-3:], [("cut", "rug", 1, "end", 3, 0), ("fault", "rug", 0, 5, 4, 0),
                                               ("sew", "rug", "hat", 4, 0, False)])

    def test_records_are_plain(self):
        book = small_book()
        book.take("red", "cap", 2, [["bob", 3], ("ann", 1)], 2, oil=Span(1))
        self.assertIs(type(book.records()), list)
        for record in book.records():
            self.assertIs(type(record), tuple)
            if record[0] == "take":
                self.assertIs(type(record[4]), tuple)
                self.assertEqual({type(part) for part in record[4]}, {tuple})
                self.assertIn(type(record[7]), (Span, type(None)))

    def test_an_empty_book(self):
        self.assertEqual((len(Book()), Book().records(), Book().bolts(), Book().blame(), Book().accounts()),
                         (0, [], {}, {}, {}))

    def test_equal_records_all_stand(self):
        book = small_book()
        for _ in range(2):
            book.give("red", "ann", 5, 1)
            book.pay("rug", 3, 4)
            book.advance("ann", 2, 1)
            book.fault("rug", 0, 1, 3)
        self.assertEqual(len(book), 12)
        self.assertEqual(book.records().count(("pay", "rug", 3, 4)), 2)
        self.assertEqual(book.blame(), {"ann": 2})
        book.drop(4)
        self.assertEqual(book.records().count(("give", "red", "ann", 5, 1, 0, 0)), 1)

    def test_great_numbers(self):
        book = Book(GREAT)
        book.give("red", "ann", GREAT, GREAT, GREAT, GREAT)
        book.take("red", "rug", GREAT, (("ann", GREAT), ("ann", GREAT)), GREAT, GREAT, Span(100))
        book.cut("rug", GREAT, "end", GREAT, GREAT)
        book.fault("end", GREAT - 1, GREAT, GREAT, GREAT)
        self.assertEqual({name: str(bolt) for name, bolt in book.bolts().items()},
                         {"rug": f"rug 0-{GREAT - 1}", "end": f"rug {GREAT}-{2 * GREAT - 1}"})
        self.assertEqual(book.blame(), {"ann": 1})

    def test_a_home_of_a_weaving_several_times(self):
        book = Book()
        book.give("red", "ann", 9, 1)
        book.give("red", "bob", 9, 1)
        book.take("red", "rug", 9, (("bob", 1), ("ann", 2), ("bob", 3)), 1)
        self.assertEqual(book.sheet("red").makers("rug"), ["bob", "ann"])
        self.assertEqual(str(book.bolts()["rug"]), "rug 0-5")


class KeptTest(unittest.TestCase):
    def test_what_is_handed_in_is_kept_as_a_copy(self):
        weaving, oil = [["ann", 4], ["bob", 2]], Span(3, 5)
        book = small_book()
        book.take("red", "cap", 24, weaving, 2, oil=oil)
        self.assertEqual((weaving, oil), ([["ann", 4], ["bob", 2]], Span(3, 5)))
        before = told(book)
        weaving[0][1] = 9
        weaving.append(["cleo", 1])
        oil.least = 0
        self.assertEqual(told(book), before)

    def test_told_things_changed_change_nothing(self):
        book = small_book()
        book.take("red", "cap", 1, (("ann", 1),), 2, oil=Span(3, 5))
        book.fault("cap", 0, 1, 3)
        before = told(book)
        book.records()[2][7].least = 0
        book.records().clear()
        book.bolts().clear()
        book.bolts()["cap"].runs().clear()
        book.blame()["ann"] = 9
        book.sheet("red").homes().clear()
        book.sheet("red").got("ann").most = 99
        book.accounts()["ann"].pence = 99
        book.account("ann").pence = 99
        self.assertEqual(told(book), before)
        self.assertEqual(book.records()[2][7], Span(3, 5))

    def test_a_refusals_record_is_a_copy(self):
        book = small_book()
        book.take("red", "cap", 24, (("ann", 1),), 2, oil=Span(3, 5))
        for _ in range(2):
            with self.assertRaises(Broken) as caught:
                book.drop(0)
            record = caught.exception.record
            self.assertEqual(record, ("take", "red", "cap", 24, (("ann", 1),), 2, 0, Span(3, 5)))
            record[7].least = 0

    def test_what_was_told_stays_as_it_was(self):
        book = small_book()
        records, bolts, blame, sheet = book.records(), book.bolts(), book.blame(), book.sheet("red")
        shown = repr(records), str(bolts["rug"]), repr(blame), repr(plain.shown_sheet(sheet))
        book.sew("rug", "hat", 3)
        book.fault("rug", 1, 1, 4)
        book.give("red", "ann", 99, 1)
        self.assertEqual((repr(records), str(bolts["rug"]), repr(blame), repr(plain.shown_sheet(sheet))), shown)
        self.assertEqual(sorted(bolts), ["hat", "rug"])


class NoNameTest(RefusedTest):
    def test_each_place_of_anything(self):
        book = small_book()
        for wrong in NO_NAMES:
            with self.subTest(wrong=wrong):
                for method, things in (
                    ("give", (wrong, "ann", 1, 1)),
                    ("give", ("red", wrong, 1, 1)),
                    ("take", (wrong, "cap", 1, (("ann", 1),), 2)),
                    ("take", ("red", wrong, 1, (("ann", 1),), 2)),
                    ("take", ("red", "cap", 1, ((wrong, 1),), 2)),
                    ("take", ("red", "cap", 1, (("ann", 1), (wrong, 1)), 2)),
                    ("sew", (wrong, "hat", 3)),
                    ("sew", ("rug", wrong, 3)),
                    ("cut", (wrong, 1, "end", 3)),
                    ("cut", ("rug", 1, wrong, 3)),
                    ("fault", (wrong, 0, 1, 3)),
                    ("pay", (wrong, 1, 3)),
                    ("advance", (wrong, 1, 3)),
                ):
                    self.check(NoName, {"name": wrong}, book, method, *things)

    def test_the_very_thing(self):
        thing = object()
        with self.assertRaises(NoName) as caught:
            Book().advance(thing, 1, 1)
        self.assertIs(caught.exception.name, thing)

    def test_the_first_by_its_place(self):
        book = small_book()
        self.check(NoName, {"name": "A"}, book, "give", "A", "B", 1, 1)
        self.check(NoName, {"name": "A"}, book, "give", home="B", lot="A", drams=1, day=1)
        self.check(NoName, {"name": "A"}, book, "take", "A", "B", 1, (("C", 1),), 1)
        self.check(NoName, {"name": "B"}, book, "take", "red", "B", 1, (("C", 1),), 1)
        self.check(NoName, {"name": "B"}, book, "take", weaving=(("C", 1),), day=1, drams=1, piece="B", lot="red")
        self.check(NoName, {"name": "C"}, book, "take", "red", "cap", 1, (("ann", 1), ("C", 1), ("D", 1)), 1)
        self.check(NoName, {"name": None}, book, "sew", None, 0, 3)
        self.check(NoName, {"name": 0}, book, "cut", 0, 1, None, 3)

    def test_ahead_of_all_else(self):
        book = small_book()
        book.cut("rug", 1, "end", 3)
        # No number, a name that is taken, makers that weren't given yarn, an hour that is used, a bolt that isn't there.
        self.check(NoName, {"name": "A"}, book, "take", "red", "rug", 1, (("ann", 0), ("A", 1)), 0)
        self.check(NoName, {"name": ""}, book, "cut", "", 0, "rug", 3)
        self.check(NoName, {"name": ""}, book, "cut", "none", 0, "", 3)
        self.check(NoName, {"name": ""}, book, "sew", "none", "", 3)

    def test_names_of_one_and_twelve_letters(self):
        book = Book()
        for name in ("a", "z", "abcdefghijkl", "zzzzzzzzzzzz", "day", "give"):
            book.give(name, name, 1, 1)
            book.take(name, name, 1, ((name, 1),), 1)
        self.assertEqual(len(book), 12)


class NoNumberTest(RefusedTest):
    def test_ells_of_a_weaving(self):
        book = small_book()
        for weaving in ((("ann", 0),), (("ann", 1), ("bob", 0)), (("ann", 0), ("bob", 1)), (("ann", -1), ("bob", 5))):
            with self.subTest(weaving=weaving):
                self.check(NoNumber, {}, book, "take", "red", "cap", 1, weaving, 2)
        for ells in (True, 1.5, "1", None):
            self.check(NoNumber, {}, book, "take", "red", "cap", 1, (("bob", 2), ("ann", ells)), 2)
        book.take("red", "cap", 1, (("ann", 1),), 2)

    def test_oil_that_comes_to_no_yarn(self):
        book = small_book()
        # With a hundred parts of oil in a hundred all cloth weighs twice its yarn.
        self.check(NoNumber, {}, book, "take", "red", "cap", 3, (("ann", 1),), 2, oil=Span(100))
        self.check(NoNumber, {}, book, "take", "red", "cap", 1, (("ann", 1),), 2, 0, Span(100))
        book.take("red", "cap", 3, (("ann", 1),), 2, 1, Span(100))
        book.take("red", "cape", 4, (("ann", 1),), 2, 0, Span(100))
        book.take("red", "coat", 3, (("ann", 1),), 2, 0, Span(99, 100))
        self.assertEqual([str(book.sheet("red").yarn(piece)) for piece in ("cap", "cape", "coat")], ["1 to 2", "2", "2"])

    def test_ahead_of_what_is_taken_or_broken(self):
        book = small_book()
        self.check(NoNumber, {}, book, "take", "red", "rug", 1, (("ann", 0),), 2)
        self.check(NoNumber, {}, book, "take", "red", "rug", 3, (("zed", 1),), 0, oil=Span(100))
        self.check(NoNumber, {}, book, "take", "red", "cap", 1, (("zed", 1), ("ann", 0)), 0)


class TakenTest(RefusedTest):
    def test_names_of_pieces_and_rests(self):
        book = small_book()
        book.cut("rug", 1, "end", 5)
        for name in ("rug", "hat", "end"):
            self.check(Taken, {"name": name}, book, "take", "red", name, 1, (("ann", 1),), 2)
            self.check(Taken, {"name": name}, book, "take", "blue", name, 1, (("ann", 1),), 9)
            self.check(Taken, {"name": name}, book, "cut", "hat", 1, name, 7, 7)

    def test_names_of_bolts_that_are_no_more(self):
        book = small_book()
        book.sew("rug", "hat", 3)
        self.check(Taken, {"name": "hat"}, book, "take", "red", "hat", 1, (("ann", 1),), 9)
        self.check(Taken, {"name": "hat"}, book, "cut", "rug", 1, "hat", 9)

    def test_ahead_of_hours_and_what_is_broken(self):
        book = small_book()
        book.cut("rug", 1, "end", 3, 4)
        self.check(Taken, {"name": "end"}, book, "cut", "rug", 1, "end", 3, 4)
        self.check(Taken, {"name": "hat"}, book, "cut", "none", 0, "hat", 3, 4)
        self.check(Taken, {"name": "hat"}, book, "take", "red", "hat", 1, (("zed", 1),), 0)
        self.check(Taken, {"name": "hat"}, book, "cut", "hat", 1, "hat", 0, 0)

    def test_other_names_are_free(self):
        book = small_book()
        book.give("rug", "rug", 1, 1)
        book.take("rug", "ann", 1, (("rug", 2),), 1)
        book.take("rug", "red", 1, (("rug", 2),), 1)
        book.cut("red", 1, "bob", 2)
        self.assertEqual(sorted(book.bolts()), ["ann", "bob", "hat", "red", "rug"])

    def test_names_behind_a_drop(self):
        book = small_book()
        book.drop(3)
        self.assertEqual(book.cut("rug", 1, "hat", 5), 4)
        self.check(Taken, {"name": "hat"}, book, "take", "red", "hat", 2, (("bob", 3),), 2)
        book.drop(4)
        self.assertEqual(book.take("red", "hat", 2, (("bob", 3),), 2), 5)


class SameHourTest(RefusedTest):
    def test_sewings_and_cuts_of_one_hour(self):
        book = small_book()
        book.cut("rug", 1, "end", 3, 4)
        book.sew("rug", "hat", 3, 5)
        fields = {"day": 3, "hour": 4}
        self.check(SameHour, fields, book, "cut", "rug", 1, "tail", 3, 4)
        self.check(SameHour, fields, book, "sew", "rug", "end", 3, 4)
        fields = {"day": 3, "hour": 5}
        self.check(SameHour, fields, book, "cut", "rug", 1, "tail", 3, 5)
        self.check(SameHour, fields, book, "sew", "rug", "end", 3, hour=5)
        book.sew("rug", "end", 3, 6)

    def test_the_hour_that_is_not_told(self):
        book = small_book()
        book.cut("rug", 1, "end", 3)
        self.check(SameHour, {"day": 3, "hour": 0}, book, "sew", "rug", "hat", 3)
        self.check(SameHour, {"day": 3, "hour": 0}, book, "sew", "rug", "hat", 3, 0)
        book.sew("rug", "hat", 4)
        book.sew("rug", "end", 3, 1)

    def test_ahead_of_what_is_broken(self):
        book = small_book()
        book.cut("rug", 1, "end", 3, 4)
        self.check(SameHour, {"day": 3, "hour": 4}, book, "sew", "none", "none", 3, 4)
        self.check(SameHour, {"day": 3, "hour": 4}, book, "cut", "rug", 99, "tail", 3, 4)

    def test_faults_have_hours_in_common(self):
        book = small_book()
        book.fault("rug", 0, 1, 3, 4)
        book.fault("rug", 1, 1, 3, 4)
        book.cut("hat", 1, "end", 3, 4)
        book.fault("hat", 0, 1, 3, 4)
        self.assertEqual(len(book), 8)

    def test_hours_behind_a_drop(self):
        book = small_book()
        number = book.cut("rug", 1, "end", 3, 4)
        book.drop(number)
        self.assertEqual(book.sew("rug", "hat", 3, 4), number + 1)


class BrokenTest(RefusedTest):
    def test_a_take_without_a_give(self):
        book = Book()
        book.give("red", "ann", 9, 5)
        book.give("blue", "bob", 9, 1)

        def take(lot, weaving, day):
            return ("take", lot, "rug", 3, weaving, day, 0, None)

        self.check_broken(take("red", (("ann", 1),), 4), book, "take", "red", "rug", 3, (("ann", 1),), 4)
        self.check_broken(take("blue", (("ann", 1),), 9), book, "take", "blue", "rug", 3, (("ann", 1),), 9)
        self.check_broken(take("red", (("ann", 1), ("bob", 1)), 9), book, "take", "red", "rug", 3,
                          (("ann", 1), ("bob", 1)), 9)
        self.check_broken(take("red", (("bob", 1), ("ann", 1)), 9), book, "take", "red", "rug", 3,
                          [("bob", 1), ("ann", 1)], 9)
        book.take("red", "rug", 3, (("ann", 1),), 5)

    def test_a_give_of_nothing_is_one(self):
        book = Book()
        book.give("red", "ann", 0, 5)
        book.take("red", "rug", 3, (("ann", 1),), 5)
        self.assertEqual(len(book), 2)

    def test_a_give_told_late(self):
        book = Book()
        self.check_broken(("take", "red", "rug", 3, (("ann", 1),), 5, 0, None), book, "take", "red", "rug", 3,
                          (("ann", 1),), 5)
        book.give("red", "ann", 9, 7)
        book.give("red", "ann", 9, 2)
        book.give("red", "ann", 9, 6)
        self.assertEqual(book.take("red", "rug", 3, (("ann", 1),), 5), 3)

    def test_a_sewing(self):
        book = small_book()
        book.sew("rug", "hat", 3, 4)
        for bolt, other, day, hour in (("rug", "rug", 9, 0), ("none", "rug", 9, 0), ("rug", "none", 9, 0),
                                       ("none", "none", 9, 0), ("rug", "hat", 9, 0), ("hat", "rug", 9, 0),
                                       ("hat", "rug", 3, 5), ("rug", "hat", 1, 9), ("ann", "bob", 9, 0)):
            with self.subTest(bolt=bolt, other=other, day=day, hour=hour):
                self.check_broken(("sew", bolt, other, day, hour, False), book, "sew", bolt, other, day, hour)

    def test_a_piece_is_there_ahead_of_all_hours_of_its_day(self):
        book = small_book()
        self.check_broken(("sew", "rug", "hat", 1, 99, False), book, "sew", "rug", "hat", 1, 99)
        book.sew("rug", "hat", 2, 0)
        self.assertEqual(str(book.bolts()["rug"]), "rug 0-5; hat 0-2")

    def test_a_cut(self):
        book = small_book()
        for bolt, at in (("none", 1), ("rug", 0), ("rug", 6), ("rug", 7), ("rug", GREAT), ("hat", 3), ("hat", 0)):
            with self.subTest(bolt=bolt, at=at):
                self.check_broken(("cut", bolt, at, "end", 3, 0), book, "cut", bolt, at, "end", 3)
        book.cut("rug", 5, "end", 3)
        book.cut("hat", 1, "tail", 3, 1)
        self.check_broken(("cut", "end", 1, "tip", 9, 0), book, "cut", "end", 1, "tip", 9)
        self.assertEqual({name: str(bolt) for name, bolt in book.bolts().items()},
                         {"rug": "rug 0-4", "end": "rug 5", "hat": "hat 0", "tail": "hat 1-2"})

    def test_a_cut_of_its_own_rest(self):
        book = small_book()
        self.check_broken(("cut", "end", 1, "end", 3, 0), book, "cut", "end", 1, "end", 3)

    def test_a_fault(self):
        book = small_book()
        book.cut("rug", 4, "end", 3, 4)
        for bolt, ell, day, hour in (("none", 0, 9, 0), ("rug", 4, 3, 4), ("rug", 4, 9, 0), ("rug", 6, 3, 3),
                                     ("end", 0, 3, 3), ("end", 2, 3, 4), ("rug", 0, 1, 99), ("hat", 3, 2, 0),
                                     ("hat", -1, 9, 0)):
            with self.subTest(bolt=bolt, ell=ell, day=day, hour=hour):
                self.check_broken(("fault", bolt, ell, 1, day, hour), book, "fault", bolt, ell, 1, day, hour)
        book.fault("rug", 5, 1, 3, 3)
        book.fault("rug", 3, 1, 3, 4)
        book.fault("end", 0, 1, 3, 4)
        book.fault("hat", 2, 1, 2)
        self.assertEqual(len(book), 9)

    def test_a_pay(self):
        book = small_book()
        book.cut("rug", 4, "end", 3)
        for piece, day in (("none", 9), ("end", 9), ("rug", 1), ("hat", 0), ("ann", 9), ("red", 9)):
            with self.subTest(piece=piece, day=day):
                self.check_broken(("pay", piece, 5, day), book, "pay", piece, 5, day)
        book.sew("rug", "hat", 4)
        book.pay("rug", 5, 2)
        book.pay("hat", 5, 9)

    def test_told_ahead_in_days_it_breaks_one_told_earlier(self):
        book = small_book()
        book.fault("rug", 5, 1, 7)
        self.check_broken(("fault", "rug", 5, 1, 7, 0), book, "cut", "rug", 3, "end", 5)
        self.check_broken(("fault", "rug", 5, 1, 7, 0), book, "sew", "hat", "rug", 5)
        book.cut("rug", 3, "end", 8)
        self.check_broken(("cut", "rug", 3, "end", 8, 0), book, "cut", "rug", 3, "tail", 7, 9)
        self.check_broken(("cut", "rug", 3, "end", 8, 0), book, "sew", "hat", "rug", 7, 9)

    def test_in_one_hour_it_breaks_a_fault(self):
        book = small_book()
        book.fault("rug", 5, 1, 7, 2)
        self.check_broken(("fault", "rug", 5, 1, 7, 2), book, "cut", "rug", 3, "end", 7, 2)
        self.check_broken(("fault", "rug", 5, 1, 7, 2), book, "sew", "hat", "rug", 7, 2)
        book.cut("rug", 3, "end", 7, 3)
        book.fault("hat", 2, 1, 7, 4)
        book.sew("hat", "end", 7, 4)
        book.fault("hat", 5, 1, 7, 4)

    def test_the_first_of_several(self):
        book = small_book()
        book.fault("rug", 5, 3, 7, 2)
        book.fault("rug", 4, 3, 7, 2)
        book.fault("rug", 5, 1, 6, 9)
        book.fault("rug", 5, 1, 8)
        self.check_broken(("fault", "rug", 5, 1, 6, 9), book, "cut", "rug", 3, "end", 5)
        self.check_broken(("fault", "rug", 4, 3, 7, 2), book, "cut", "rug", 3, "end", 7, 2)
        self.check_broken(("fault", "rug", 5, 1, 8, 0), book, "cut", "rug", 3, "end", 7, 3)
        book.drop(6)
        # By texts, not by numbers: 10 stands ahead of 9.
        big = Book()
        big.give("red", "ann", 9, 1)
        big.take("red", "rug", 9, (("ann", 12),), 1)
        big.fault("rug", 9, 1, 7)
        big.fault("rug", 10, 1, 7)
        self.check_broken(("fault", "rug", 10, 1, 7, 0), big, "cut", "rug", 3, "end", 5)

    def test_a_fault_and_a_sewing_of_one_hour_that_both_can_not_be(self):
        book = small_book()
        number = book.cut("rug", 3, "end", 5)
        book.sew("hat", "end", 6, 1)
        book.fault("hat", 5, 1, 6, 1)
        # Without the rest the sewing does nothing, and the fault stands ahead of it.
        self.check_broken(("fault", "hat", 5, 1, 6, 1), book, "drop", number)

    def test_what_can_not_be_does_nothing_behind(self):
        book = small_book()
        book.sew("rug", "hat", 3)
        book.cut("rug", 8, "end", 4)
        book.fault("end", 0, 1, 4)
        # The cut at 8 does nothing where the hat isn't sewn on; nor is there an end, then.
        self.check_broken(("cut", "rug", 8, "end", 4, 0), book, "drop", 4)

    def test_a_piece_of_a_take_that_can_not_be_is_in_all_the_same(self):
        book = small_book()
        book.pay("rug", 1, 3)
        book.cut("rug", 1, "end", 3)
        take = ("take", "red", "rug", 24, (("ann", 4), ("bob", 2)), 2, 0, None)
        self.check_broken(take, book, "drop", 0)
        # Both takes need bob's yarn; the first one by its text goes, and neither pay nor cut ahead of it.
        self.check_broken(("take", "red", "hat", 2, (("bob", 3),), 2, 0, None), book, "drop", 1)

    def test_pays_of_the_day_of_a_take_stand_ahead_of_it(self):
        book = small_book()
        book.pay("rug", 1, 2)
        self.check_broken(("pay", "rug", 1, 2), book, "drop", 2)


class DropTest(RefusedTest):
    def test_numbers_behind_a_drop(self):
        book = small_book()
        self.assertIsNone(book.drop(3))
        self.assertEqual(len(book), 3)
        self.assertEqual(book.advance("ann", 1, 1), 4)
        self.assertIsNone(book.drop(number=4))
        self.assertEqual(book.advance("ann", 1, 1), 5)
        book.drop(5)
        book.drop(2)
        book.drop(0)
        book.drop(1)
        self.assertEqual((len(book), book.records()), (0, []))
        self.assertEqual(book.advance("ann", 1, 1), 6)

    def test_numbers_behind_what_is_refused(self):
        book = small_book()
        for things in (("", 1, 1), (None, 1, 1)):
            with self.assertRaises(NoName):
                book.advance(*things)
        with self.assertRaises(Broken):
            book.pay("none", 1, 1)
        self.assertEqual(book.pay("rug", 1, 2), 4)

    def test_no_record(self):
        book = small_book()
        book.drop(3)
        for number in (3, 4, 5, 99, GREAT):
            self.check(NoRecord, {"number": number}, book, "drop", number)
        with self.assertRaises(NoRecord) as caught:
            Book().drop(0)
        self.assertEqual(vars(caught.exception), {"number": 0})

    def test_a_drop_that_leaves_another_one_broken(self):
        book = small_book()
        book.pay("hat", 1, 5)
        book.cut("rug", 1, "end", 3)
        book.sew("hat", "end", 4)
        book.fault("hat", 6, 1, 5)
        self.check_broken(("sew", "hat", "end", 4, 0, False), book, "drop", 5)
        self.check_broken(("fault", "hat", 6, 1, 5, 0), book, "drop", 6)
        self.check_broken(("take", "red", "hat", 2, (("bob", 3),), 2, 0, None), book, "drop", 1)
        self.check_broken(("sew", "hat", "end", 4, 0, False), book, "drop", 3)
        book.drop(7)
        book.drop(6)
        self.check_broken(("pay", "hat", 1, 5), book, "drop", 3)
        book.drop(4)
        book.drop(3)
        self.assertEqual(sorted(book.bolts()), ["end", "rug"])

    def test_of_two_gives_one_may_go(self):
        book = small_book()
        number = book.give("red", "ann", 3, 2)
        book.drop(0)
        self.check_broken(("take", "red", "rug", 24, (("ann", 4), ("bob", 2)), 2, 0, None), book, "drop", number)

    def test_as_if_it_had_never_been_told(self):
        book = small_book()
        before = told(book)
        book.drop(book.cut("rug", 1, "end", 3))
        book.drop(book.give("red", "ann", 3, 0))
        book.drop(book.fault("rug", 1, 3, 4))
        self.assertEqual(told(book), before)


class OrderTest(unittest.TestCase):
    def test_days_hours_and_texts(self):
        book = small_book()
        rows = [
            ("fault", "rug", 10, 1, 2, 0),
            ("fault", "rug", 2, 9, 2, 0),
            ("sew", "rug", "cap", 2, 0, False),
            ("fault", "rug", 0, 9, 2, 1),
            ("fault", "rug", 0, 9, 2, 2),
            ("cut", "rug", 1, "end", 2, 10),
            ("fault", "hat", 2, 9, 2, 10),
            ("advance", "zed", 10, 10),
            ("advance", "zed", 9, 10),
            ("give", "red", "ann", 20, 10, 0, 0),
            ("give", "red", "ann", 20, 10, 1, 0),
            ("give", "red", "ann", 20, 10, 0, 1),
            ("give", "red", "ann", 3, 10, 0, 0),
            ("pay", "rug", 5, 10),
            ("fault", "end", 0, 5, 10, 3),
        ]
        book.take("red", "cap", 9, (("ann", 9),), 2)
        for word, *things in sorted(rows, key=lambda row: (row[0] != "sew", row[0] != "cut", repr(row))):
            getattr(book, word)(*things)
        told_takes = [record for record in book.records() if record[0] == "take"]
        self.assertEqual([record[2] for record in told_takes], ["cap", "hat", "rug"])
        self.assertEqual(book.records()[5:], rows)

    def test_of_any_records(self):
        chance = random.Random(28)
        for _ in range(60):
            book = Book()
            for _ in range(40):
                word = chance.choice(["give", "advance"])
                home, drams, day = chance.choice("abc"), chance.randint(0, 120), chance.randint(0, 12)
                if word == "give":
                    book.give(chance.choice("xy"), home, drams, day, chance.choice([0, 3]), chance.choice([0, 20]))
                else:
                    book.advance(home, drams, day)
            self.assertEqual(book.records(), plain.in_order(book.records()))


class PlainTest(unittest.TestCase):
    """Against the plain book, record by record."""

    def some_record(self, chance):
        bolts = ["p", "q", "r", "s", "t"]
        day = chance.randint(1, 4)
        hour = chance.choice([0, 0, 1, 2])
        word = chance.choice(["give", "give", "take", "take", "take", "sew", "cut", "cut", "fault", "fault", "pay",
                              "advance"])
        if word == "give":
            return (word, chance.choice("xy"), chance.choice("abc"), chance.randint(0, 30), chance.randint(0, 2), 1, 1)
        if word == "take":
            weaving = tuple((chance.choice("abc"), chance.choice([0, 1, 2, 3, 4]) or chance.randint(0, 1))
                            for _ in range(chance.randint(1, 3)))
            oil = chance.choice([None, None, None, Span(0, 5), Span(100)])
            return (word, chance.choice("xy"), chance.choice(bolts), chance.randint(0, 9), weaving, day, 0, oil)
        if word == "sew":
            return (word, chance.choice(bolts), chance.choice(bolts), day, hour, chance.random() < 0.5)
        if word == "cut":
            return (word, chance.choice(bolts), chance.randint(0, 4), chance.choice("uvwrs"), day, hour)
        if word == "fault":
            return (word, chance.choice(bolts + ["u", "v"]), chance.randint(0, 6), chance.randint(0, 9), day, hour)
        if word == "pay":
            return (word, chance.choice(bolts), chance.randint(0, 9), day)
        return (word, chance.choice("abcd"), chance.randint(0, 9), day)

    def check_told(self, book, standing, record):
        want = plain.refusal_of(list(standing.values()), record)
        word, *things = record
        if want is None:
            standing[getattr(book, word)(*things)] = record
            return True
        with self.assertRaises(getattr(errors, want[0])) as caught:
            getattr(book, word)(*things)
        self.assertEqual((type(caught.exception).__name__, vars(caught.exception)), want)
        return False

    def check_dropped(self, book, standing, number):
        rest = [record for other, record in standing.items() if other != number]
        broken = plain.first_broken(rest)
        if broken is None:
            book.drop(number)
            del standing[number]
            return
        with self.assertRaises(Broken) as caught:
            book.drop(number)
        self.assertEqual(caught.exception.record, broken)

    def check_same(self, book, standing, chance):
        records = list(standing.values())
        self.assertEqual(book.records(), plain.in_order(records))
        self.assertEqual(len(book), len(records))
        for day, hour in ((None, None), (chance.randint(0, 5), None), (chance.randint(0, 5), chance.randint(0, 3))):
            bolts = {name: [bolt.spot(ell) for ell in range(len(bolt))]
                     for name, bolt in book.bolts(day, hour).items()}
            self.assertEqual(bolts, plain.played(plain.told_up_to(records, day, hour))[0])
            self.assertEqual(book.blame(day), plain.blame_of(records, day))
            for lot in ("x", "y", "zzz"):
                self.assertEqual(plain.shown_sheet(book.sheet(lot, day)),
                                 plain.shown_sheet(plain.sheet_of(records, lot, day)))

    def test_any_records(self):
        chance = random.Random(27)
        many = 0
        for _ in range(60):
            book, standing = Book(), {}
            for _ in range(60):
                if standing and chance.random() < 0.15:
                    self.check_dropped(book, standing, chance.choice(sorted(standing)))
                else:
                    many += self.check_told(book, standing, self.some_record(chance))
                if chance.random() < 0.3:
                    self.check_same(book, standing, chance)
            self.check_same(book, standing, chance)
        self.assertGreater(many, 600)


if __name__ == "__main__":
    unittest.main()
