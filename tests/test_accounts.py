"""Accounts: promise [30], and [2] to [4] as far as they speak of accounts."""

import random
import unittest

import plain
from samples import GREAT
from yarnback.book import Book
from yarnback.errors import NoHome, NothingMade, Unfit
from yarnback.money import Money
from yarnback.papers import bars


def pence_of(book, day=None):
    return {home: money.pence for home, money in book.accounts(day).items()}


def fair_book(price=1):
    """ann and bob wove the rug together, 4 and 2 ells; bob wove the hat; both put in all that they got."""
    book = Book(price)
    book.give("red", "ann", 20, 1)
    book.give("red", "bob", 10, 1)
    book.take("red", "rug", 25, (("ann", 4), ("bob", 2)), 2)
    book.take("red", "hat", 5, (("bob", 3),), 2)
    return book


class PayTest(unittest.TestCase):
    def test_split_by_what_each_could_have_put_in(self):
        book = fair_book()
        book.pay("rug", 50, 3)
        # ann put in 20 of the rug, bob 5.
        self.assertEqual(pence_of(book), {"ann": 40, "bob": 10})
        book.pay("hat", 7, 3)
        self.assertEqual(pence_of(book), {"ann": 40, "bob": 17})

    def test_each_pay_is_split_by_itself(self):
        book = fair_book()
        for _ in range(3):
            book.pay("rug", 2, 3)
        # 2 pence by 20 and 5: 1 each, and the one that is left to ann.
        self.assertEqual(pence_of(book), {"ann": 6, "bob": 0})
        book.pay("rug", 3, 3)
        self.assertEqual(pence_of(book), {"ann": 8, "bob": 1})

    def test_by_the_greatest_shares(self):
        book = Book(0)
        book.give("red", "ann", 20, 1)
        book.give("red", "bob", 10, 1)
        book.take("red", "rug", 12, (("bob", 1), ("ann", 1)), 2)
        book.pay("rug", 22, 3)
        # ann could have put in all 12, bob 10.
        self.assertEqual(pence_of(book), {"ann": 12, "bob": 10})

    def test_what_is_told_late_counts(self):
        book = Book(0)
        book.give("red", "ann", 20, 1)
        book.give("red", "bob", 10, 1)
        book.take("red", "rug", 20, (("ann", 4), ("bob", 2)), 2)
        book.pay("rug", 30, 3)
        self.assertEqual(pence_of(book), {"ann": 20, "bob": 10})
        book.take("red", "hat", 10, (("bob", 3),), 9)
        self.assertEqual(pence_of(book), {"ann": 30, "bob": 0})
        self.assertEqual(pence_of(book, 8), {"ann": 20, "bob": 10})

    def test_pays_of_lots(self):
        book = fair_book()
        book.give("blue", "ann", 3, 2)
        book.take("blue", "cap", 3, (("ann", 1),), 3)
        book.pay("cap", 11, 4)
        book.pay("rug", 50, 4)
        self.assertEqual(pence_of(book), {"ann": 51, "bob": 10})

    def test_great_pence(self):
        book = fair_book()
        book.pay("rug", GREAT, 3)
        book.pay("hat", GREAT, 3)
        told = pence_of(book)
        self.assertEqual(told, {"ann": GREAT * 20 // 25, "bob": GREAT - GREAT * 20 // 25 + GREAT})
        self.assertEqual(sum(told.values()), 2 * GREAT)


class FineTest(unittest.TestCase):
    def test_the_home_whose_ell_it_is(self):
        book = fair_book()
        book.pay("rug", 50, 3)
        book.fault("rug", 3, 4, 4)
        book.fault("rug", 4, 3, 4)
        self.assertEqual(pence_of(book), {"ann": 36, "bob": 7})

    def test_no_more_than_the_parts_of_the_pays_for_the_piece(self):
        book = fair_book()
        book.pay("rug", 50, 3)
        book.pay("hat", 100, 3)
        book.fault("rug", 4, 9, 4)
        self.assertEqual(pence_of(book)["bob"], 101)
        book.fault("rug", 5, 1, 4)
        self.assertEqual(pence_of(book)["bob"], 100)
        book.fault("rug", 5, 1, 4)
        self.assertEqual(pence_of(book)["bob"], 100)
        book.fault("rug", 5, GREAT, 4)
        self.assertEqual(pence_of(book), {"ann": 40, "bob": 100})
        book.fault("hat", 0, 99, 4)
        self.assertEqual(pence_of(book), {"ann": 40, "bob": 1})

    def test_all_pays_for_the_piece_together(self):
        book = fair_book()
        book.pay("hat", 3, 3)
        book.pay("hat", 4, 3)
        book.fault("hat", 0, 5, 4)
        book.fault("hat", 1, 1, 4)
        self.assertEqual(pence_of(book), {"ann": 0, "bob": 1})

    def test_without_a_pay(self):
        book = fair_book()
        book.fault("hat", 0, 5, 4)
        book.pay("rug", 50, 3)
        self.assertEqual(pence_of(book), {"ann": 40, "bob": 10})

    def test_a_fault_ahead_of_its_pay(self):
        book = fair_book()
        book.fault("hat", 0, 5, 4)
        book.pay("hat", 8, 9)
        self.assertEqual(pence_of(book), {"ann": 0, "bob": 3})
        self.assertEqual(pence_of(book, 8), {"ann": 0, "bob": 0})

    def test_through_sewings_and_cuts(self):
        book = fair_book()
        book.pay("rug", 50, 3)
        book.pay("hat", 10, 3)
        book.sew("rug", "hat", 4, turned=True)
        book.cut("rug", 5, "end", 4, 1)
        book.fault("end", 0, 2, 5)
        book.fault("end", 1, 3, 5)
        book.fault("rug", 0, 7, 5)
        # end: rug 5 of bob, then the hat's ells 2, 1, 0.
        self.assertEqual(pence_of(book), {"ann": 33, "bob": 15})

    def test_pieces_of_one_home_stand_apart(self):
        book = fair_book()
        book.pay("hat", 5, 3)
        book.fault("rug", 4, 5, 4)
        self.assertEqual(pence_of(book)["bob"], 5)


class KeptTest(unittest.TestCase):
    def kept(self, price, waste=3):
        """ann lacks 8 drams, bob 2."""
        book = Book(price)
        book.give("red", "ann", 20, 1, waste=waste)
        book.give("red", "bob", 10, 1, waste=2)
        book.take("red", "rug", 12, (("ann", 4),), 2)
        book.take("red", "hat", 8, (("bob", 3),), 2)
        return book

    def test_the_price_of_what_is_beyond_the_waste(self):
        self.assertEqual(pence_of(self.kept(1)), {"ann": -5, "bob": 0})
        self.assertEqual(pence_of(self.kept(7)), {"ann": -35, "bob": 0})
        self.assertEqual(pence_of(self.kept(GREAT)), {"ann": -5 * GREAT, "bob": 0})

    def test_the_price_0_and_the_price_not_told(self):
        self.assertEqual(pence_of(self.kept(0)), {"ann": 0, "bob": 0})
        book = Book()
        book.give("red", "ann", 20, 1, waste=3)
        self.assertEqual(pence_of(book), {"ann": -17})
        self.assertEqual(str(book.account("ann")), "-1s 5d")

    def test_just_the_waste_is_fair(self):
        self.assertEqual(pence_of(self.kept(7, 8)), {"ann": 0, "bob": 0})
        self.assertEqual(pence_of(self.kept(7, 7)), {"ann": -7, "bob": 0})
        self.assertEqual(pence_of(self.kept(7, 99)), {"ann": 0, "bob": 0})

    def test_by_the_least_lack(self):
        book = Book(5)
        book.give("red", "ann", 20, 1, slack=2, waste=1)
        book.give("red", "bob", 20, 1, slack=1, waste=1)
        book.take("red", "rug", 20, (("ann", 4), ("bob", 1)), 2, slack=1)
        # Each may have made all of the rug: at least 18 - 21 is lacking with ann, 19 - 21 with bob.
        self.assertEqual(pence_of(book), {"ann": 0, "bob": 0})
        book.give("red", "ann", 10, 1)
        self.assertEqual(pence_of(book), {"ann": -5 * (28 - 21 - 1), "bob": 0})

    def test_each_lot_by_itself(self):
        book = self.kept(2)
        book.give("blue", "ann", 9, 5, waste=1)
        book.give("green", "ann", 9, 6, waste=9)
        self.assertEqual(pence_of(book), {"ann": -10 - 16, "bob": 0})
        self.assertEqual(pence_of(book, 4), {"ann": -10, "bob": 0})

    def test_what_comes_in_later(self):
        book = self.kept(2)
        book.take("red", "cap", 4, (("ann", 1),), 7)
        self.assertEqual([pence_of(book, day)["ann"] for day in (1, 2, 6, 7, 8)], [-34, -10, -10, -2, -2])

    def test_great_drams(self):
        book = Book(GREAT)
        book.give("red", "ann", GREAT, 1)
        self.assertEqual(book.account("ann").pence, -GREAT * GREAT)


class AdvanceTest(unittest.TestCase):
    def test_all_together(self):
        book = fair_book()
        book.advance("ann", 30, 2)
        book.advance("ann", 5, 4)
        book.advance("zed", 7, 3)
        book.pay("rug", 50, 3)
        self.assertEqual(pence_of(book), {"ann": 5, "bob": 10, "zed": -7})
        self.assertEqual(pence_of(book, 2), {"ann": -30, "bob": 0})
        self.assertEqual(book.account("zed", 3), Money(-7))

    def test_an_advance_of_nothing(self):
        book = Book()
        book.advance("zed", 0, 3)
        self.assertEqual(pence_of(book), {"zed": 0})
        self.assertEqual(str(book.account("zed")), "0d")


class ToldTest(unittest.TestCase):
    def test_kinds(self):
        book = fair_book()
        self.assertIs(type(book.accounts()), dict)
        self.assertEqual({type(money) for money in book.accounts().values()}, {Money})
        self.assertIs(type(book.account("ann")), Money)

    def test_by_names(self):
        book = fair_book()
        book.pay(piece="rug", pence=50, day=3)
        self.assertEqual(book.account(day=3, home="ann"), Money(40))
        self.assertEqual(book.account(home="ann", day=2), Money(0))
        self.assertEqual(book.account("ann", None), Money(40))
        self.assertEqual(book.accounts(day=2), {"ann": Money(), "bob": Money()})

    def test_homes_up_to_a_day(self):
        book = fair_book()
        book.give("blue", "cleo", 0, 4)
        book.advance("zed", 1, 6)
        told = {day: sorted(book.accounts(day)) for day in (0, 1, 4, 6)}
        self.assertEqual(told, {0: [], 1: ["ann", "bob"], 4: ["ann", "bob", "cleo"],
                                6: ["ann", "bob", "cleo", "zed"]})

    def test_each_account_alone(self):
        book = fair_book(3)
        book.give("red", "bob", 7, 2)
        book.pay("rug", 50, 3)
        book.fault("rug", 5, 2, 3)
        book.advance("cleo", 9, 3)
        self.assertEqual(book.accounts(), {home: book.account(home) for home in ("ann", "bob", "cleo")})


class RefusedTest(unittest.TestCase):
    def check(self, refusal, fields, call, *things):
        with self.assertRaises(refusal) as caught:
            call(*things)
        self.assertIs(type(caught.exception), refusal)
        if fields is not None:
            self.assertEqual(vars(caught.exception), fields)

    def unfit(self):
        """red fits; blue and green of ann don't, nor black of bob."""
        book = fair_book()
        for lot, home in (("green", "ann"), ("blue", "ann"), ("black", "bob")):
            book.give(lot, home, 3, 5)
            book.take(lot, lot + "rug", 4, ((home, 1),), 6)
        return book

    def test_no_home(self):
        book = fair_book()
        book.advance("zed", 7, 3)
        for home in ("cleo", "rug", "hat", "red", "an", ""):
            self.check(NoHome, {"name": home}, book.account, home)
        self.check(NoHome, {"name": "zed"}, book.account, "zed", 2)
        self.check(NoHome, {"name": "ann"}, book.account, "ann", 0)
        self.check(NoHome, {"name": "ann"}, Book().account, "ann")

    def test_no_home_ahead_of_what_does_not_fit(self):
        self.check(NoHome, {"name": "cleo"}, self.unfit().account, "cleo")

    def test_unfit_by_the_first_lot(self):
        book = self.unfit()
        self.check(Unfit, {"paper": ("short", ("bluerug",))}, book.account, "ann")
        self.check(Unfit, {"paper": ("short", ("blackrug",))}, book.account, "bob")
        self.assertEqual(book.account("ann", 5), Money(-6))
        self.assertEqual(book.account("bob", 5), Money(-3))

    def test_unfit_paper_bars(self):
        book = Book()
        book.give("red", "ann", 3, 1)
        book.give("red", "bob", 3, 1)
        book.take("red", "rug", 4, (("ann", 1), ("bob", 1)), 1)
        book.take("red", "hat", 3, (("bob", 1),), 1)
        for home in ("ann", "bob"):
            with self.assertRaises(Unfit) as caught:
                book.account(home)
            self.assertTrue(bars(book.sheet("red"), caught.exception.paper))

    def test_lots_of_others_do_not_matter(self):
        book = fair_book()
        book.give("blue", "cleo", 3, 5)
        book.take("blue", "cap", 4, (("cleo", 1),), 6)
        self.assertEqual(book.account("ann"), Money())
        self.check(Unfit, {"paper": ("short", ("cap",))}, book.account, "cleo")

    def test_nothing_made(self):
        book = Book()
        book.give("red", "ann", 3, 1)
        book.give("red", "bob", 3, 1)
        book.take("red", "rug", 0, (("ann", 1), ("bob", 1)), 2)
        book.pay("rug", 0, 3)
        self.assertEqual(pence_of(book), {"ann": -3, "bob": -3})
        book.pay("rug", 1, 4)
        self.assertEqual(pence_of(book, 3), {"ann": -3, "bob": -3})
        for home in ("ann", "bob"):
            self.check(NothingMade, {}, book.account, home)
        self.check(NothingMade, {}, book.accounts)

    def test_nothing_made_where_it_has_a_part(self):
        book = fair_book()
        book.give("red", "cleo", 3, 1)
        book.take("red", "cap", 0, (("cleo", 1),), 2)
        book.pay("cap", 1, 3)
        self.assertEqual((book.account("ann"), book.account("bob")), (Money(), Money()))
        self.check(NothingMade, {}, book.account, "cleo")

    def test_unfit_ahead_of_nothing_made(self):
        book = Book()
        book.give("red", "ann", 3, 1)
        book.take("red", "rug", 0, (("ann", 1),), 2)
        book.pay("rug", 1, 3)
        book.give("white", "ann", 3, 4)
        book.take("white", "cap", 4, (("ann", 1),), 4)
        self.check(NothingMade, {}, book.account, "ann", 3)
        self.check(Unfit, {"paper": ("short", ("cap",))}, book.account, "ann")

    def test_accounts_by_the_first_home(self):
        book = self.unfit()
        self.check(Unfit, {"paper": ("short", ("bluerug",))}, book.accounts)
        book = fair_book()
        book.give("blue", "zed", 3, 5)
        book.take("blue", "cap", 4, (("zed", 1),), 6)
        book.give("white", "cleo", 3, 5)
        book.take("white", "coat", 0, (("cleo", 1),), 6)
        book.pay("coat", 1, 6)
        self.check(NothingMade, {}, book.accounts)
        book.give("blue", "bess", 0, 5)
        self.check(Unfit, {"paper": ("short", ("cap",))}, book.accounts)
        self.assertEqual(sorted(book.accounts(5)), ["ann", "bess", "bob", "cleo", "zed"])

    def test_refused_again_and_again(self):
        book = self.unfit()
        for _ in range(2):
            self.check(Unfit, {"paper": ("short", ("bluerug",))}, book.account, "ann")
            self.check(Unfit, {"paper": ("short", ("bluerug",))}, book.accounts)


class WholeTest(unittest.TestCase):
    def some_book(self, chance):
        book = Book(chance.choice([0, 1, 3]))
        homes = ["ann", "bob", "cleo", "dora"][:chance.randint(1, 4)]
        lots = ["red", "blue"][:chance.randint(1, 2)]
        for home in homes:
            for lot in lots:
                if chance.random() < 0.8:
                    book.give(lot, home, chance.randint(5, 30), chance.randint(1, 2), chance.choice([0, 0, 2]),
                              chance.randint(0, 3))
        for piece in ("rug", "hat", "cap", "coat")[:chance.randint(0, 4)]:
            lot = chance.choice(lots)
            makers = [home for home in book.sheet(lot).homes() if chance.random() < 0.7]
            if makers:
                book.take(lot, piece, chance.randint(0, 12), [(home, chance.randint(1, 3)) for home in makers],
                          chance.randint(2, 4), chance.choice([0, 2]))
                for _ in range(chance.randint(0, 2)):
                    book.pay(piece, chance.randint(0, 40), chance.randint(4, 6))
                book.fault(piece, 0, chance.randint(0, 20), 5)
        for _ in range(chance.randint(0, 2)):
            book.advance(chance.choice(homes + ["zed"]), chance.randint(0, 9), chance.randint(1, 6))
        return book

    def test_against_the_plain_book(self):
        chance = random.Random(30)
        told = 0
        for _ in range(150):
            book = self.some_book(chance)
            price = book._price
            for day in (None, 2, 5):
                try:
                    accounts = pence_of(book, day)
                except (Unfit, NothingMade):
                    continue
                records = book.records()
                homes = plain.homes_of(records, day)
                self.assertEqual(accounts, {home: plain.account_of(records, price, home, day) for home in homes})
                told += len(accounts)
        self.assertGreater(told, 400)

    def test_together_to_the_penny(self):
        chance = random.Random(4)
        told = 0
        for _ in range(200):
            book = self.some_book(chance)
            records = [record for record in book.records() if record[0] != "fault"]
            plainer = Book(0)
            for word, *things in sorted(records, key=lambda record: (record[0] == "pay", record[0] == "take")):
                getattr(plainer, word)(*things)
            try:
                accounts = pence_of(plainer)
            except (Unfit, NothingMade):
                continue
            pays = sum(record[2] for record in records if record[0] == "pay")
            advances = sum(record[2] for record in records if record[0] == "advance")
            self.assertEqual(sum(accounts.values()), pays - advances)
            told += 1
        self.assertGreater(told, 60)


if __name__ == "__main__":
    unittest.main()
