"""The desk: promise [33], and [2] and [3] as far as they speak of it."""

import unittest

from yarnback.desk import Desk
from yarnback.errors import (Broken, NoAsk, NoHome, NoMaker, NoNumber, NoPiece, NoRecord, NothingMade, SameHour, Taken,
                             Unfit)

ROWS = [
    "give red ann 20 day=1 slack=1 waste=1",
    "give red bob 10 day=1 waste=2",
    "take red rug 24 ann*4+bob*2 day=2",
    "take red hat 2 bob*3 day=3",
    "pay rug 31 day=5",
    "pay hat 3 day=6",
    "sew rug hat day=7 turned=yes",
    "cut rug 7 end day=7 hour=1",
    "fault rug 6 5 day=8",
    "advance cleo 3 day=4",
    "give blue ann 9 day=9 waste=1",
    "take blue cap 10 ann*1 day=10",
]


def told_desk(price=1):
    desk = Desk(price)
    for row in ROWS:
        desk.say(row)
    return desk


class DeskTest(unittest.TestCase):
    def check(self, desk, answers):
        for row, answer in answers.items():
            with self.subTest(row=row):
                self.assertEqual(desk.say(row), answer)
                self.assertIs(type(desk.say(row)), str)

    def check_refused(self, refusal, fields, desk, row):
        before = desk.say("log")
        with self.subTest(row=row):
            with self.assertRaises(refusal) as caught:
                desk.say(row)
            self.assertIs(type(caught.exception), refusal)
            self.assertEqual(vars(caught.exception), fields)
            self.assertEqual(desk.say("log"), before)


class ToldTest(DeskTest):
    def test_each_record(self):
        desk = Desk()
        for number, row in enumerate(ROWS):
            self.assertEqual(desk.say(row), f"ok {number}")
        self.assertEqual(desk.say(row="advance zed 1 day=1"), "ok 12")

    def test_rows_written_otherwise(self):
        desk = Desk()
        self.assertEqual(desk.say("give red ann 20 day=1 waste=1 slack=0"), "ok 0")
        self.assertEqual(desk.say("take red rug 3 ann*2 day=1 oil=3 slack=2"), "ok 1")
        self.assertEqual(desk.say("log"), "give red ann 20 day=1 waste=1 / take red rug 3 ann*2 day=1 slack=2 oil=3")

    def test_drop(self):
        desk = told_desk()
        self.assertEqual(desk.say("drop 8"), "ok")
        self.assertEqual(desk.say("blame bob"), "0")
        self.assertEqual(desk.say("advance zed 1 day=1"), "ok 12")
        self.assertEqual(desk.say("drop 12"), "ok")
        self.check_refused(NoRecord, {"number": 12}, desk, "drop 12")
        self.check_refused(NoRecord, {"number": 999999999999999}, desk, "drop 999999999999999")
        self.assertEqual(desk.say(row="drop 9"), "ok")
        self.check_refused(NoHome, {"name": "cleo"}, desk, "account cleo")

    def test_refused_by_the_book(self):
        desk = told_desk()
        self.check_refused(NoNumber, {}, desk, "take red coat 2 ann*0 day=9")
        self.check_refused(NoNumber, {}, desk, "take red coat 3 ann*1 day=9 oil=100")
        self.check_refused(Taken, {"name": "hat"}, desk, "take red hat 2 ann*1 day=9")
        self.check_refused(SameHour, {"day": 7, "hour": 1}, desk, "cut rug 1 tail day=7 hour=1")
        self.check_refused(Broken, {"record": ("pay", "coat", 1, 9)}, desk, "pay coat 1 day=9")
        self.check_refused(Broken, {"record": ("take", "red", "rug", 24, (("ann", 4), ("bob", 2)), 2, 0, None)}, desk,
                           "drop 1")
        self.check_refused(Broken, {"record": ("cut", "rug", 7, "end", 7, 1)}, desk, "drop 6")

    def test_numbers_behind_what_is_refused(self):
        desk = told_desk()
        self.check_refused(Taken, {"name": "hat"}, desk, "take red hat 2 ann*1 day=9")
        self.check_refused(NoAsk, {"row": "advance zed one day=1"}, desk, "advance zed one day=1")
        self.assertEqual(desk.say("advance zed 1 day=1"), "ok 12")

    def test_desks_stand_apart(self):
        one, other = told_desk(), told_desk()
        one.say("drop 8")
        self.assertEqual((one.say("blame bob"), other.say("blame bob")), ("0", "1"))


class AskedTest(DeskTest):
    def test_lack(self):
        self.check(told_desk(), {
            "lack red ann": "0 to 5",
            "lack red bob": "0 to 5",
            "lack red ann day=1": "19 to 21",
            "lack red bob day=1": "10",
            "lack red ann day=2": "0 to 7",
            "lack red ann day=99": "0 to 5",
            "lack blue ann day=9": "9",
        })

    def test_verdict(self):
        self.check(told_desk(), {
            "verdict red ann": "may be",
            "verdict red ann day=1": "keeps",
            "verdict blue ann day=9": "keeps",
            "verdict red bob day=2": "may be",
        })
        desk = Desk()
        desk.say("give red ann 5 day=1 waste=5")
        self.check(desk, {"verdict red ann": "fair", "verdict red ann day=1": "fair"})

    def test_share(self):
        self.check(told_desk(), {
            "share rug ann": "16 to 21",
            "share rug bob": "3 to 8",
            "share rug bob day=2": "3 to 10",
            "share hat bob": "2",
            "share hat bob day=3": "2",
        })

    def test_account(self):
        self.check(told_desk(), {
            "account ann day=8": "1s 10d",
            "account bob": "9d",
            "account cleo": "-3d",
            "account cleo day=4": "-3d",
            "account ann day=9": "1s 2d",
            "account ann day=4": "0d",
            "account bob day=5": "9d",
            "account bob day=7": "1s",
        })

    def test_the_price(self):
        for price, money in ((0, "1s 10d"), (1, "1s 2d"), (2, "6d"), (100, "-3l 4s 10d")):
            self.check(told_desk(price), {"account ann day=9": money})
        self.assertEqual(Desk(price=3).say("log"), "")

    def test_blame(self):
        self.check(told_desk(), {"blame bob": "1", "blame bob day=8": "1", "blame bob day=7": "0", "blame ann": "0",
                                 "blame zed": "0", "blame zed day=3": "0"})

    def test_bolt(self):
        self.check(told_desk(), {
            "bolt rug": "rug 0-5; hat 2",
            "bolt end": "hat 1-0",
            "bolt hat": "none",
            "bolt hat day=3": "hat 0-2",
            "bolt hat day=2": "none",
            "bolt rug day=6": "rug 0-5",
            "bolt end day=6": "none",
            "bolt zed": "none",
            "bolt end day=7": "hat 1-0",
        })

    def test_tale(self):
        desk = told_desk()
        self.check(desk, {"tale red": "fits", "tale blue": "short cap", "tale blue day=9": "fits", "tale zed": "fits",
                          "tale red day=0": "fits"})
        desk.say("take red cloak 9 ann*1 day=20")
        answer = desk.say("tale red").split(" ")
        self.assertEqual(answer, ["short", "cloak", "hat", "rug"])
        self.check(desk, {"tale red day=19": "fits"})

    def test_log(self):
        self.assertEqual(Desk().say("log"), "")
        desk = Desk()
        desk.say("advance zed 1 day=2")
        self.assertEqual(desk.say("log"), "advance zed 1 day=2")
        desk.say("advance ann 1 day=1")
        self.assertEqual(desk.say("log"), "advance ann 1 day=1 / advance zed 1 day=2")
        rows = told_desk().say("log").split(" / ")
        self.assertEqual(sorted(rows), sorted(ROWS))
        self.assertEqual(rows[0], ROWS[0])
        self.assertEqual(rows[-1], "take blue cap 10 ann*1 day=10")

    def test_asks_change_nothing(self):
        desk = told_desk()
        before = desk.say("log")
        for _ in range(2):
            self.check(desk, {"lack red ann": "0 to 5", "bolt rug": "rug 0-5; hat 2", "account bob": "9d"})
        self.assertEqual(desk.say("log"), before)

    def test_names_that_are_words(self):
        desk = Desk()
        self.assertEqual(desk.say("give log day 5 day=1"), "ok 0")
        self.assertEqual(desk.say("take log drop 5 day*2 day=1"), "ok 1")
        self.check(desk, {"lack log day": "0", "share drop day": "5", "bolt drop": "drop 0-1", "tale log": "fits",
                          "account day": "0d", "blame day": "0", "lack log day day=1": "0"})


class RefusedTest(DeskTest):
    def test_by_what_is_asked(self):
        desk = told_desk()
        self.check_refused(NoHome, {"name": "cleo"}, desk, "lack red cleo")
        self.check_refused(NoHome, {"name": "bob"}, desk, "lack blue bob")
        self.check_refused(NoHome, {"name": "ann"}, desk, "lack zed ann")
        self.check_refused(NoHome, {"name": "ann"}, desk, "lack red ann day=0")
        self.check_refused(NoHome, {"name": "cleo"}, desk, "verdict red cleo")
        self.check_refused(NoHome, {"name": "bob"}, desk, "verdict blue bob")
        self.check_refused(NoHome, {"name": "zed"}, desk, "account zed")
        self.check_refused(NoHome, {"name": "cleo"}, desk, "account cleo day=3")
        paper = {"paper": ("short", ("cap",))}
        for row in ("lack blue ann", "verdict blue ann", "share cap ann", "account ann", "account ann day=10"):
            self.check_refused(Unfit, paper, desk, row)

    def test_share(self):
        desk = told_desk()
        self.check_refused(NoPiece, {"name": "zed"}, desk, "share zed ann")
        self.check_refused(NoPiece, {"name": "zed"}, desk, "share zed zed")
        self.check_refused(NoPiece, {"name": "end"}, desk, "share end bob")
        self.check_refused(NoPiece, {"name": "rug"}, desk, "share rug ann day=1")
        self.check_refused(NoPiece, {"name": "hat"}, desk, "share hat bob day=2")
        self.check_refused(NoMaker, {"piece": "hat", "home": "ann"}, desk, "share hat ann")
        self.check_refused(NoMaker, {"piece": "cap", "home": "bob"}, desk, "share cap bob")
        self.check_refused(NoMaker, {"piece": "rug", "home": "zed"}, desk, "share rug zed day=2")

    def test_nothing_made(self):
        desk = Desk()
        for row in ("give red ann 3 day=1", "take red rug 0 ann*1 day=1", "pay rug 5 day=2"):
            desk.say(row)
        self.check_refused(NothingMade, {}, desk, "account ann")
        self.check(desk, {"account ann day=1": "-3d"})


class NoAskTest(DeskTest):
    def check_no_ask(self, rows):
        desk = told_desk()
        for row in rows:
            self.check_refused(NoAsk, {"row": row}, desk, row)

    def test_what_is_no_text(self):
        desk = Desk()
        for thing in (None, 0, 1, True, False, 1.5, b"log", ["log"], ("log",), {"log": 1}, [], {}, object(), str):
            with self.assertRaises(NoAsk) as caught:
                desk.say(thing)
            self.assertIs(caught.exception.row, thing)
        self.assertEqual(desk.say("log"), "")

    def test_other_words(self):
        self.check_no_ask(["", " ", "x", "Log", "LOG", "logs", "ok", "help", "tales red", "lac red ann", "records", "\n",
                           "sheet red", "bolts", "accounts", "account", "blame", "bolt", "tale", "lack", "verdict",
                           "share", "drop", "give", "take", "sew", "cut", "fault", "pay", "advance", "red ann"])

    def test_other_names(self):
        for name in ("", "A", "Ann", "ann1", "1", "a-b", "abcdefghijklm", "day=1", "*", "ann,"):
            self.check_no_ask([f"lack {name} ann", f"lack red {name}", f"verdict {name} ann", f"verdict red {name}",
                               f"share {name} ann", f"share rug {name}", f"account {name}", f"blame {name}",
                               f"bolt {name}", f"tale {name}", f"advance {name} 1 day=1", f"give {name} ann 1 day=1"])

    def test_more_and_fewer_names(self):
        asks = {"lack": 2, "verdict": 2, "share": 2, "account": 1, "blame": 1, "bolt": 1, "tale": 1}
        for word, many in asks.items():
            for names in range(4):
                for day in ("", " day=3"):
                    if names != many:
                        self.check_no_ask([" ".join([word] + ["ann"] * names) + day])

    def test_days(self):
        for day in ("day=", "day=x", "day=01", "day=-1", "day", "3", "Day=3", "day=3 day=3", "day=3 ", "hour=3", "day =3",
                    "day= 3", "day=1000000000000000", "day=3=3", "=3", "day=3 hour=1", "", "days=3", "day=" + "9" * 5000):
            self.check_no_ask([f"{ask} {day}" for ask in ("lack red ann", "verdict red ann", "share rug ann",
                                                          "account bob", "blame bob", "bolt rug", "tale red", "log")])
        self.check_no_ask(["log day=3", "lack day=3 red ann", "day=3 lack red ann", "lack red day=3 ann", "day=3 log",
                           "bolt day=3 rug", "blame day=3"])
        self.check(told_desk(), {"blame bob day=999999999999999": "1", "blame bob day=0": "0"})

    def test_drops(self):
        self.check_no_ask(["drop", "drop ", "drop x", "drop 01", "drop -1", "drop 1 2", "drop 1 day=3", "drop 1.0",
                           "drop  1", "drop 1 ", " drop 1", "drop +1", "drop 1000000000000000", "drop " + "1" * 5000,
                           "drop day=1", "drop 1\n", "Drop 1", "drop one"])

    def test_blanks_and_line_feeds(self):
        for row in ("log", "lack red ann", "account bob", "bolt rug day=3", "tale red", "blame bob",
                    "advance zed 1 day=1"):
            self.check_no_ask([" " + row, row + " ", row + "\n", "\n" + row, row + "\nlog", row + " / log"])
            if " " in row:
                self.check_no_ask([row.replace(" ", "  ", 1), row.replace(" ", "\n", 1), row.replace(" ", "", 1)])

    def test_records_that_are_not_written_so(self):
        self.check_no_ask(["give red ann 20", "give red ann 20 day=1 day=1", "take red rug 24 ann day=2",
                           "sew rug hat day=7 turned=maybe", "pay rug 31 day=5 hour=1", "cut rug 1 day=3",
                           "take red coat 2 ann*1 day=9 oil=3-3", "give red ann 1000000000000000 day=1"])


if __name__ == "__main__":
    unittest.main()
