"""The whole program: promises [1] to [5], each bullet of [4] over books that are told in any turn."""

import itertools
import random
import unittest

import plain
from samples import small_sheets
from yarnback.bolts import Bolt
from yarnback.book import Book
from yarnback.desk import Desk
from yarnback.errors import Broken, NothingMade, Unfit
from yarnback.fitting import tale_of
from yarnback.lacks import lack_of, tale_with, verdict
from yarnback.logs import read_book, show_book
from yarnback.papers import bars
from yarnback.shares import pay_of, share_of, split
from yarnback.spans import Span
from yarnback.tales import fault_of, lack_in
from yarnback.weaving import maker_at
from yarnback.weighings import cheapest, do_show, lets_by, things_of

GREAT = 999999999999999
LOTS = ["blue", "red"]
HOMES = ["ann", "bob", "cleo"]


def some_records(chance):
    """Records that can be, all together."""
    book = Book()

    def told(word, *things):
        try:
            getattr(book, word)(*things)
        except (Broken, ValueError):
            pass

    for lot, home in itertools.product(LOTS, HOMES):
        if chance.random() < 0.8:
            told("give", lot, home, chance.randint(3, 20), chance.randint(1, 3), chance.choice([0, 2]), 1)
    for piece in ("cap", "hat", "rug", "coat")[:chance.randint(1, 4)]:
        weaving = tuple((chance.choice(HOMES), chance.randint(1, 4)) for _ in range(chance.randint(1, 3)))
        oil = chance.choice([None, None, Span(3, 10)])
        told("take", chance.choice(LOTS), piece, chance.randint(0, 12), weaving, chance.randint(2, 4), 1, oil)
    for rest in ("end", "tail", "mid"):
        names = sorted(book.bolts())
        if names:
            told("cut", chance.choice(names), chance.randint(1, 4), rest, chance.randint(3, 6), chance.randint(0, 3))
            told("sew", chance.choice(names), chance.choice(names), chance.randint(3, 6), chance.randint(0, 3),
                 chance.random() < 0.5)
            told("fault", chance.choice(names), chance.randint(0, 5), chance.randint(0, 9), chance.randint(3, 7))
            told("pay", chance.choice(names), chance.randint(0, 30), chance.randint(3, 7))
    told("advance", chance.choice(HOMES + ["zed"]), 4, 3)
    return book.records()


def tell_all(records, price):
    """A book that is told the records in this turn, those that can't be yet behind the others; None where that fails."""
    book, left = Book(price), list(records)
    while left:
        later = []
        for record in left:
            try:
                getattr(book, record[0])(*record[1:])
            except Broken:
                later.append(record)
        if len(later) == len(left):
            return None
        left = later
    return book


def answer(ask, *things):
    """What is told, or what it is refused with."""
    try:
        return repr(ask(*things))
    except (Unfit, NothingMade, KeyError) as refusal:
        return type(refusal).__name__ + repr(vars(refusal))


def all_told(book):
    """All that the book tells, written out."""
    told = [len(book), repr(book.records()), show_book(book)]
    for day in (None, *range(8)):
        told.append({name: str(bolt) for name, bolt in book.bolts(day).items()})
        told.append(book.blame(day))
        told.append([plain.shown_sheet(book.sheet(lot, day)) for lot in LOTS])
        told.append([answer(tale_of, book.sheet(lot, day)) for lot in LOTS])
        told.append(answer(book.accounts, day))
        told += [answer(book.account, home, day) for home in HOMES + ["zed", "yan"]]
        if day is not None:
            told += [{name: str(bolt) for name, bolt in book.bolts(day, hour).items()} for hour in range(4)]
    return told


class TurnTest(unittest.TestCase):
    def test_in_whatever_turn(self):
        chance = random.Random(41)
        many = 0
        for _ in range(25):
            records = some_records(chance)
            want = all_told(read_book("\n".join(plain.row_of(record) for record in records), 3))
            for _ in range(4):
                book = tell_all(chance.sample(records, len(records)), 3)
                if book is not None:
                    self.assertEqual(all_told(book), want)
                    many += 1
        self.assertGreater(many, 60)

    def test_what_is_dropped_is_as_if_it_had_never_been_told(self):
        chance = random.Random(42)
        for _ in range(25):
            records = some_records(chance)
            book = read_book("\n".join(plain.row_of(record) for record in records), 2)
            numbers = dict(enumerate(records))
            for number in chance.sample(sorted(numbers), len(numbers) // 2):
                try:
                    book.drop(number)
                    del numbers[number]
                except Broken:
                    pass
            other = read_book("\n".join(plain.row_of(record) for record in numbers.values()), 2)
            self.assertEqual(all_told(book), all_told(other))

    def test_a_book_written_and_read_is_the_book(self):
        chance = random.Random(43)
        for _ in range(25):
            records = some_records(chance)
            book = tell_all(records, 5)
            if book is None:
                continue
            text = show_book(book)
            self.assertEqual(all_told(read_book(text, 5)), all_told(book))
            rows = text.split("\n")
            self.assertEqual(all_told(read_book("\n".join(chance.sample(rows, len(rows))), 5)), all_told(book))

    def test_a_desk_tells_what_its_book_tells(self):
        chance = random.Random(44)
        for _ in range(25):
            book = tell_all(some_records(chance), 2)
            desk = Desk(2)
            if book is None:
                continue
            left = [plain.row_of(record) for record in book.records()]
            while left:
                later = []
                for row in left:
                    try:
                        desk.say(row)
                    except Broken:
                        later.append(row)
                if len(later) == len(left):
                    break
                left = later
            if left:
                continue
            self.assertEqual(desk.say("log"), show_book(book).replace("\n", " / "))
            for home in HOMES:
                for ask, said in ((book.account, "account"), (lambda name: book.blame().get(name, 0), "blame")):
                    want = answer(lambda name: str(ask(name)), home)
                    self.assertEqual(answer(desk.say, f"{said} {home}"), want)
                for lot in LOTS:
                    self.assertEqual(answer(desk.say, f"lack {lot} {home}"),
                                     answer(lambda: str(lack_of(book.sheet(lot), home))))
                    self.assertEqual(answer(desk.say, f"verdict {lot} {home}"),
                                     answer(lambda: verdict(book.sheet(lot), home)))
            for name in ("rug", "hat", "end"):
                bolts = book.bolts()
                self.assertEqual(desk.say(f"bolt {name}"), str(bolts[name]) if name in bolts else "none")

    def test_asked_again_it_is_told_the_same(self):
        chance = random.Random(45)
        for _ in range(10):
            book = read_book("\n".join(plain.row_of(record) for record in some_records(chance)), 2)
            self.assertEqual(all_told(book), all_told(book))


class DramsTest(unittest.TestCase):
    """Each dram is in cloth or lacking; keeps and fair just where each tale, or none, says so; papers for whoever looks."""

    def sheets(self):
        chance = random.Random(46)
        for _ in range(40):
            book = read_book("\n".join(plain.row_of(record) for record in some_records(chance)))
            for lot in LOTS:
                yield book.sheet(lot, chance.choice([None, 3, 5]))
        yield from small_sheets(40, 47)

    def test_lacks_and_verdicts_are_those_of_tales(self):
        fits = 0
        for sheet in self.sheets():
            word, told = tale_of(sheet)
            if word == "barred":
                self.assertTrue(bars(sheet, told))
                continue
            fits += 1
            self.assertIsNone(fault_of(sheet, told))
            got = sum(drams for _, drams in told[0])
            put = sum(drams for _, _, drams in told[1])
            self.assertEqual(got, put + sum(lack_in(told, home) for home in sheet.homes()))
            for home in sheet.homes():
                lack = lack_of(sheet, home)
                for drams in (lack.least, lack.most):
                    tale = tale_with(sheet, home, drams)
                    self.assertIsNone(fault_of(sheet, tale))
                    self.assertEqual(lack_in(tale, home), drams)
                self.assertIsNone(tale_with(sheet, home, lack.least - 1))
                self.assertIsNone(tale_with(sheet, home, lack.most + 1))
                fair = tale_of(sheet, [home])
                keeps = verdict(sheet, home) == "keeps"
                self.assertEqual(keeps, fair[0] == "barred")
                if keeps:
                    self.assertTrue(bars(sheet, fair[1], [home]))
        self.assertGreater(fits, 40)

    def test_pays_come_to_the_penny(self):
        for sheet in self.sheets():
            if tale_of(sheet)[0] == "barred":
                continue
            for piece in sheet.pieces():
                weights = [share_of(sheet, piece, home).most for home in sheet.makers(piece)]
                if sum(weights):
                    self.assertEqual(pay_of(sheet, piece, 37), list(zip(sheet.makers(piece), split(37, weights))))
                    self.assertEqual(sum(pence for _, pence in pay_of(sheet, piece, 37)), 37)

    def test_the_weighings_told_show_all(self):
        for sheet in self.sheets():
            cost, things, paper = cheapest(sheet)
            self.assertEqual(cost, len(things))
            self.assertTrue(do_show(sheet, things))
            self.assertTrue(lets_by(sheet, things, paper))
            if len(things_of(sheet)) < 8:
                for fewer in itertools.combinations(things_of(sheet), max(0, cost - 1)):
                    self.assertTrue(cost == 0 or not do_show(sheet, list(fewer)))


class EllTest(unittest.TestCase):
    def test_an_ell_is_the_homes_that_wove_it(self):
        chance = random.Random(48)
        faults = 0
        for _ in range(120):
            records = some_records(chance)
            book = read_book("\n".join(plain.row_of(record) for record in records))
            weavings = {record[2]: record[4] for record in records if record[0] == "take"}
            blame = {}
            for record in [record for record in records if record[0] == "fault"]:
                _, name, place, _, day, hour = record
                piece, ell = book.bolts(day, hour)[name].spot(place)
                home = maker_at(weavings[piece], ell)
                blame[home] = blame.get(home, 0) + 1
                faults += 1
            self.assertEqual(book.blame(), blame)
        self.assertGreater(faults, 60)

    def test_no_ell_is_lost_nor_made(self):
        chance = random.Random(49)
        for _ in range(60):
            records = some_records(chance)
            book = read_book("\n".join(plain.row_of(record) for record in records))
            for day in (None, 3, 5):
                ells = [bolt.spot(place) for bolt in book.bolts(day).values() for place in range(len(bolt))]
                woven = [(record[2], ell) for record in plain.told_up_to(records, day) if record[0] == "take"
                         for ell in range(sum(ells for _, ells in record[4]))]
                self.assertEqual(sorted(ells), sorted(woven))


class GreatTest(unittest.TestCase):
    def test_a_great_book(self):
        """Some hundreds of records, with numbers of fifteen figures, asked again behind each."""
        chance = random.Random(50)
        book = Book(GREAT)
        desk = Desk(GREAT)
        homes = ["ann", "bob", "cleo", "dora", "emma", "fay"]
        rows = [f"give red {home} {GREAT} day=1 slack={chance.randint(0, GREAT)}" for home in homes]
        for at in range(40):
            name = "rug" + "abcdefghij"[at // 10] + "abcdefghij"[at % 10]
            woven = "+".join(f"{home}*{chance.randint(1, GREAT)}" for home in chance.sample(homes, 3))
            rows.append(f"take red {name} {chance.randint(0, GREAT // 20)} {woven} day=2 slack={chance.randint(0, 9)}")
            rows.append(f"pay {name} {chance.randint(0, GREAT)} day=3")
            rows.append(f"fault {name} {chance.randint(0, 2)} {chance.randint(0, GREAT)} day=4")
            if at > 0:
                rows.append(f"sew rugaa {name} day=5 hour={at} turned={chance.choice(['yes', 'no'])}")
        pays = 0
        for at, row in enumerate(rows):
            self.assertEqual(desk.say(row), f"ok {at}")
            pays += int(row.split(" ")[2]) if row.startswith("pay") else 0
            self.assertEqual(desk.say("tale red"), "fits")
            self.assertIn(desk.say("verdict red ann"), ("keeps", "may be", "fair"))
            desk.say(f"account {chance.choice(homes)}" if at >= 6 else "log")
            self.assertEqual(desk.say("bolt rugaa") == "none", at < 6)
        book = read_book(desk.say("log").replace(" / ", "\n"), GREAT)
        self.assertEqual(len(book), 6 + 40 * 4 - 1)
        self.assertEqual({home: str(money) for home, money in book.accounts().items()},
                         {home: desk.say(f"account {home}") for home in homes})
        self.assertEqual(list(book.bolts()), ["rugaa"])
        self.assertEqual(sum(book.blame().values()), 40)

    def test_a_bolt_of_many_joins(self):
        bolt = Bolt()
        for at in range(300):
            bolt = bolt.joined(Bolt([("rug", at * GREAT // 1000, at * GREAT // 1000 + 3)]), turned=at % 2 == 1)
        self.assertEqual((len(bolt), len(bolt.runs())), (1200, 300))


if __name__ == "__main__":
    unittest.main()
