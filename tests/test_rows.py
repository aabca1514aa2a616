"""Rows: promise [31], and [2] and [3] as far as they speak of rows."""

import itertools
import random
import unittest

import plain
from yarnback.errors import Unread
from yarnback.rows import read_record, show_record
from yarnback.spans import Span

GREAT = 999999999999999
LONG_NAME = "abcdefghxyzz"

# Each row as it is written, with its record.
ROWS = {
    "give red ann 20 day=3": ("give", "red", "ann", 20, 3, 0, 0),
    "give red ann 20 day=3 slack=2": ("give", "red", "ann", 20, 3, 2, 0),
    "give red ann 20 day=3 waste=1": ("give", "red", "ann", 20, 3, 0, 1),
    "give red ann 0 day=0 slack=2 waste=1": ("give", "red", "ann", 0, 0, 2, 1),
    "take red rug 24 ann*5+bob*3 day=4": ("take", "red", "rug", 24, (("ann", 5), ("bob", 3)), 4, 0, None),
    "take red rug 24 ann*5 day=4 slack=1": ("take", "red", "rug", 24, (("ann", 5),), 4, 1, None),
    "take red rug 24 ann*5 day=4 oil=3-5": ("take", "red", "rug", 24, (("ann", 5),), 4, 0, Span(3, 5)),
    "take red rug 24 ann*5 day=4 slack=1 oil=3": ("take", "red", "rug", 24, (("ann", 5),), 4, 1, Span(3)),
    "take red rug 24 ann*5 day=4 oil=0": ("take", "red", "rug", 24, (("ann", 5),), 4, 0, Span(0)),
    "take red rug 24 ann*5 day=4 oil=0-100": ("take", "red", "rug", 24, (("ann", 5),), 4, 0, Span(0, 100)),
    "take red rug 0 ann*0 day=4 oil=100": ("take", "red", "rug", 0, (("ann", 0),), 4, 0, Span(100)),
    "take a b 1 c*1+c*1+b*2+c*1 day=4": ("take", "a", "b", 1, (("c", 1), ("c", 1), ("b", 2), ("c", 1)), 4, 0, None),
    "sew rug hat day=5": ("sew", "rug", "hat", 5, 0, False),
    "sew rug hat day=5 hour=7": ("sew", "rug", "hat", 5, 7, False),
    "sew rug hat day=5 turned=yes": ("sew", "rug", "hat", 5, 0, True),
    "sew rug hat day=5 hour=7 turned=yes": ("sew", "rug", "hat", 5, 7, True),
    "cut rug 3 end day=5": ("cut", "rug", 3, "end", 5, 0),
    "cut rug 3 end day=5 hour=8": ("cut", "rug", 3, "end", 5, 8),
    "fault rug 6 12 day=6": ("fault", "rug", 6, 12, 6, 0),
    "fault rug 0 0 day=6 hour=10": ("fault", "rug", 0, 0, 6, 10),
    "pay rug 31 day=7": ("pay", "rug", 31, 7),
    "advance ann 5 day=8": ("advance", "ann", 5, 8),
    f"give {LONG_NAME} {LONG_NAME} {GREAT} day={GREAT} slack={GREAT} waste={GREAT}":
        ("give", LONG_NAME, LONG_NAME, GREAT, GREAT, GREAT, GREAT),
    f"take a b {GREAT} c*{GREAT}+d*1 day=10": ("take", "a", "b", GREAT, (("c", GREAT), ("d", 1)), 10, 0, None),
    f"cut a {GREAT} b day=1 hour={GREAT}": ("cut", "a", GREAT, "b", 1, GREAT),
    f"fault a {GREAT} {GREAT} day=1 hour=100": ("fault", "a", GREAT, GREAT, 1, 100),
    # Names may be words of the rows.
    "give day give 1 day=1": ("give", "day", "give", 1, 1, 0, 0),
    "sew sew cut day=1 turned=yes": ("sew", "sew", "cut", 1, 0, True),
}


def some_record(chance):
    def name():
        return "".join(chance.choice("abz") for _ in range(chance.randint(1, 12)))

    def number():
        return chance.choice([0, 1, 9, 10, chance.randint(0, GREAT), GREAT])

    least = chance.randint(0, 100)
    oil = chance.choice([None, Span(least), Span(least, chance.randint(least, 100))])
    weaving = tuple((name(), number()) for _ in range(chance.randint(1, 4)))
    return chance.choice([
        ("give", name(), name(), number(), number(), number(), number()),
        ("take", name(), name(), number(), weaving, number(), number(), oil),
        ("sew", name(), name(), number(), number(), chance.random() < 0.5),
        ("cut", name(), number(), name(), number(), number()),
        ("fault", name(), number(), number(), number(), number()),
        ("pay", name(), number(), number()),
        ("advance", name(), number(), number()),
    ])


class WrittenTest(unittest.TestCase):
    def test_each_word(self):
        for row, record in ROWS.items():
            with self.subTest(row=row):
                self.assertEqual(show_record(record), row)
                self.assertIs(type(show_record(record)), str)

    def test_the_table_agrees_with_the_plain_writer(self):
        for row, record in ROWS.items():
            self.assertEqual(plain.row_of(record), row)

    def test_by_name(self):
        self.assertEqual(show_record(record=("pay", "rug", 31, 7)), "pay rug 31 day=7")

    def test_the_record_stays_as_it_was(self):
        record = ("take", "red", "rug", 24, (("ann", 5),), 4, 1, Span(3, 5))
        show_record(record)
        self.assertEqual(record, ("take", "red", "rug", 24, (("ann", 5),), 4, 1, Span(3, 5)))


class ReadTest(unittest.TestCase):
    def test_each_word(self):
        for row, record in ROWS.items():
            with self.subTest(row=row):
                read = read_record(row)
                self.assertEqual(read, record)
                self.assertIs(type(read), tuple)
                self.assertEqual([type(thing) for thing in read], [type(thing) for thing in record])

    def test_by_name(self):
        self.assertEqual(read_record(text="pay rug 31 day=7"), ("pay", "rug", 31, 7))

    def test_what_is_written_is_read(self):
        chance = random.Random(31)
        for _ in range(2000):
            record = some_record(chance)
            row = show_record(record)
            self.assertEqual(row, plain.row_of(record))
            self.assertEqual(read_record(row), record)

    def test_options_in_any_order(self):
        options = {
            "give a b 1 day=2": (["slack=3", "waste=4"], ("give", "a", "b", 1, 2, 3, 4)),
            "take a b 1 c*2 day=2": (["slack=3", "oil=4-5"], ("take", "a", "b", 1, (("c", 2),), 2, 3, Span(4, 5))),
            "sew a b day=2": (["hour=3", "turned=yes"], ("sew", "a", "b", 2, 3, True)),
        }
        for row, (words, record) in options.items():
            for turn in itertools.permutations(words):
                with self.subTest(row=row, turn=turn):
                    self.assertEqual(read_record(" ".join([row, *turn])), record)

    def test_options_that_are_as_where_they_are_not_told(self):
        told = {
            "give a b 1 day=2 slack=0": ("give", "a", "b", 1, 2, 0, 0),
            "give a b 1 day=2 waste=0": ("give", "a", "b", 1, 2, 0, 0),
            "give a b 1 day=2 waste=0 slack=3": ("give", "a", "b", 1, 2, 3, 0),
            "take a b 1 c*2 day=2 slack=0": ("take", "a", "b", 1, (("c", 2),), 2, 0, None),
            "sew a b day=2 turned=no": ("sew", "a", "b", 2, 0, False),
            "sew a b day=2 turned=no hour=0": ("sew", "a", "b", 2, 0, False),
            "sew a b day=2 hour=0 turned=yes": ("sew", "a", "b", 2, 0, True),
            "cut a 1 b day=2 hour=0": ("cut", "a", 1, "b", 2, 0),
            "fault a 1 3 day=2 hour=0": ("fault", "a", 1, 3, 2, 0),
        }
        for row, record in told.items():
            with self.subTest(row=row):
                self.assertEqual(read_record(row), record)
                self.assertNotEqual(show_record(record), row)

    def test_read_anew_each_time(self):
        row = "take a b 1 c*2 day=2 oil=4-5"
        read_record(row)[7].least = 1
        self.assertEqual(read_record(row)[7], Span(4, 5))


class UnreadTest(unittest.TestCase):
    def check_unread(self, texts):
        for text in texts:
            with self.subTest(text=text[:60]):
                with self.assertRaises(Unread) as caught:
                    read_record(text)
                self.assertEqual(vars(caught.exception), {"text": text})

    def test_words(self):
        self.check_unread(["", " ", "\n", "gave a b 1 day=2", "Give a b 1 day=2", "GIVE a b 1 day=2", "a b 1 day=2"])
        self.check_unread(["give", "drop 1", "log", "lack a b", "records", "day=2", "give day=2", "pays a 1 day=2"])
        self.check_unread(["tell a 1 day=2", "records a 1 day=2", "pa a 1 day=2", "payy a 1 day=2"])

    def test_each_place_left_out(self):
        for row in ROWS:
            words = row.split(" ")
            ahead = [at for at, word in enumerate(words) if "=" not in word]
            day = len(ahead)
            self.check_unread([" ".join(words[:at] + words[at + 1:]) for at in [*ahead, day]])

    def test_each_word_twice(self):
        for row in ROWS:
            words = row.split(" ")
            self.check_unread([" ".join(words[:at] + [words[at]] + words[at:]) for at in range(len(words))])

    def test_a_word_more(self):
        for row in ROWS:
            words = row.split(" ")
            for more in ("x", "1", "", "=", "day=1", "drams=1", "lot=a", "hours=1", "slack", "oil=", "turned="):
                self.check_unread([" ".join(words[:at] + [more] + words[at:]) for at in range(2, len(words) + 1)
                                   if more not in words])

    def test_another_blank(self):
        for row in ROWS:
            texts = [" " + row, row + " ", row.replace(" ", "  ", 1), row.replace(" ", "  "), row.replace(" ", "\n"),
                     row + "\n", "\n" + row, row.replace(" day", "\nday"), row.replace(" ", "", 1),
                     row.replace("=", " = ", 1), row.replace("=", "= ", 1), row.replace("=", " =", 1)]
            self.check_unread(texts)

    def test_options_of_other_records(self):
        options = {"hour": "hour=1", "slack": "slack=1", "waste": "waste=1", "oil": "oil=1", "turned": "turned=yes"}
        has = {"give a b 1 day=2": ["slack", "waste"], "take a b 1 c*2 day=2": ["slack", "oil"],
               "sew a b day=2": ["hour", "turned"], "cut a 1 b day=2": ["hour"], "fault a 1 2 day=2": ["hour"],
               "pay a 1 day=2": [], "advance a 1 day=2": []}
        for row, own in has.items():
            self.check_unread([f"{row} {option}" for field, option in options.items() if field not in own])
            for field in own:
                read_record(f"{row} {options[field]}")

    def test_options_twice(self):
        self.check_unread(["give a b 1 day=2 slack=1 slack=1", "give a b 1 day=2 slack=1 slack=2",
                           "give a b 1 day=2 slack=0 waste=1 slack=0", "sew a b day=2 turned=yes turned=no",
                           "sew a b day=2 hour=1 turned=yes hour=1", "take a b 1 c*2 day=2 oil=3 oil=3",
                           "cut a 1 b day=2 day=2", "pay a 1 day=2 day=3", "fault a 1 2 day=2 hour=0 hour=0"])

    def test_options_ahead_of_the_day(self):
        self.check_unread(["give a b 1 slack=1 day=2", "give a b slack=1 1 day=2", "sew a b hour=1 day=2",
                           "sew turned=yes a b day=2", "pay a day=2 1", "pay day=2 a 1", "day=2 pay a 1"])

    def test_names(self):
        wrong = ["", "A", "Ann", "aNn", "ann1", "1", "an-n", "an_n", "a.", "abcdefghijklm", "ann,", "'ann'", "a=b", "-"]
        for name in wrong:
            self.check_unread([f"give {name} b 1 day=2", f"give a {name} 1 day=2", f"take {name} b 1 c*2 day=2",
                               f"take a {name} 1 c*2 day=2", f"take a b 1 {name}*2 day=2",
                               f"take a b 1 c*2+{name}*2 day=2", f"sew {name} b day=2", f"sew a {name} day=2",
                               f"cut {name} 1 b day=2", f"cut a 1 {name} day=2", f"fault {name} 1 2 day=2",
                               f"pay {name} 1 day=2", f"advance {name} 1 day=2"])
        self.check_unread(["pay \u00e4 1 day=2", "pay \u03b1 1 day=2", "pay \uff41 1 day=2", "pay \u00aa 1 day=2"])

    def test_numbers(self):
        wrong = ["", "01", "00", "-1", "+1", "-0", "1.0", "1e3", "1_000", "1,000", "0x1", "one", "x", "1000000000000000",
                 "9999999999999999", "0000000000000001", "9" * 5000, "1-2", "1=2", "\u0662", "\u00b2", "\uff11"]
        for number in wrong:
            self.check_unread([f"give a b {number} day=2", f"give a b 1 day={number}", f"give a b 1 day=2 slack={number}",
                               f"give a b 1 day=2 waste={number}", f"take a b {number} c*2 day=2",
                               f"take a b 1 c*{number} day=2", f"take a b 1 c*2+d*{number} day=2",
                               f"take a b 1 c*2 day={number}", f"sew a b day={number}", f"sew a b day=2 hour={number}",
                               f"cut a {number} b day=2", f"fault a {number} 2 day=2", f"fault a 1 {number} day=2",
                               f"pay a {number} day=2", f"pay a 1 day={number}", f"advance a {number} day=2"])

    def test_weavings(self):
        wrong = ["", "c", "c*", "*2", "2", "2*c", "c*2+", "+c*2", "c*2++d*1", "c*2,d*1", "c*2 + d*1", "c*2+d", "c**2",
                 "c*2*3", "c*-1", "c*02", "c*2+d*1+", "c:2", "c=2", "(c*2)", "c*2+*1", "c*2-d*1", "c *2", "c* 2"]
        self.check_unread([f"take a b 1 {weaving} day=2" for weaving in wrong])

    def test_oil(self):
        wrong = ["", "3-3", "5-3", "0-0", "100-100", "101", "101-102", "3-101", "100-101", "1000", "03", "3-05", "03-5",
                 "3-", "-5", "-", "3-5-7", "3--5", "3 to 5", "3..5", "None", "no", "3+5", "1-0", "3-1000000000000000"]
        self.check_unread([f"take a b 1 c*2 day=2 oil={oil}" for oil in wrong])
        for oil, span in {"0": Span(0), "100": Span(100), "99-100": Span(99, 100), "0-1": Span(0, 1)}.items():
            self.assertEqual(read_record(f"take a b 1 c*2 day=2 oil={oil}")[7], span)

    def test_turned(self):
        wrong = ["", "y", "n", "Yes", "YES", "true", "True", "1", "0", "yess", "yes=no", "not"]
        self.check_unread([f"sew a b day=2 turned={word}" for word in wrong])

    def test_days(self):
        self.check_unread(["pay a 1 2", "pay a 1 Day=2", "pay a 1 days=2", "pay a 1 day", "pay a 1 day=", "pay a 1 =2",
                           "pay a 1 day2", "pay a 1 day:2", "pay a 1 hour=2", "pay a 1 dday=2", "pay a 1 day==2"])


if __name__ == "__main__":
    unittest.main()
