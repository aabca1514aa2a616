"""Papers: promise [16]."""

import itertools
import unittest

from yarnback.papers import bars
from yarnback.sheets import Sheet
from yarnback.spans import Span

GREAT = 999999999999999


def shop(shawl=(0, 9), rug=(0, 9), ann=(10, 12), waste=0):
    """ann and bob made the shawl, bob and cleo the rug; dora made nothing."""
    gives = [("cleo", Span(3, 5), 1), ("ann", Span(*ann), waste), ("bob", Span(6, 7), 2), ("dora", Span(2, 4), 2)]
    return Sheet(gives, [("shawl", Span(*shawl), ["bob", "ann"]), ("rug", Span(*rug), ["cleo", "bob"])])


class ShortTest(unittest.TestCase):
    def test_one_piece_by_one_dram(self):
        # ann and bob got at most 12 + 7.
        self.assertIs(bars(shop(shawl=(20, 50)), ("short", ("shawl",))), True)
        self.assertIs(bars(shop(shawl=(19, 50)), ("short", ("shawl",))), False)
        # bob and cleo got at most 7 + 5.
        self.assertIs(bars(shop(rug=(13, 13)), ("short", ("rug",))), True)
        self.assertIs(bars(shop(rug=(12, 13)), ("short", ("rug",))), False)

    def test_the_least_yarn_counts(self):
        self.assertIs(bars(shop(rug=(12, 99)), ("short", ("rug",))), False)

    def test_several_pieces_by_one_dram(self):
        # All three got at most 12 + 7 + 5, bob's once.
        sheet = shop(shawl=(19, 19), rug=(6, 6))
        self.assertIs(bars(sheet, ("short", ("rug", "shawl"))), True)
        self.assertIs(bars(sheet, ("short", ("rug",))), False)
        self.assertIs(bars(sheet, ("short", ("shawl",))), False)
        self.assertIs(bars(shop(shawl=(18, 19), rug=(6, 6)), ("short", ("rug", "shawl"))), False)

    def test_homes_that_made_none_of_them_do_not_count(self):
        sheet = Sheet([("ann", Span(5), 0), ("bob", Span(99), 0)],
                      [("hat", Span(6), ["ann"]), ("rug", Span(1), ["bob"])])
        self.assertIs(bars(sheet, ("short", ("hat",))), True)
        self.assertIs(bars(sheet, ("short", ("rug",))), False)
        self.assertIs(bars(sheet, ("short", ("hat", "rug"))), False)

    def test_waste_does_not_count(self):
        sheet = Sheet([("ann", Span(5), 5)], [("hat", Span(5), ["ann"]), ("rug", Span(6), ["ann"])])
        self.assertIs(bars(sheet, ("short", ("hat",))), False)
        self.assertIs(bars(sheet, ("short", ("rug",))), True)

    def test_names_that_do_not_rise(self):
        sheet = shop(shawl=(99, 99), rug=(99, 99))
        self.assertIs(bars(sheet, ("short", ("rug", "shawl"))), True)
        self.assertIs(bars(sheet, ("short", ("shawl", "rug"))), False)

    def test_names_twice(self):
        sheet = shop(shawl=(99, 99), rug=(99, 99))
        self.assertIs(bars(sheet, ("short", ("rug", "rug"))), False)
        self.assertIs(bars(sheet, ("short", ("rug", "rug", "shawl"))), False)
        self.assertIs(bars(sheet, ("short", ("rug", "shawl", "rug"))), False)

    def test_strange_names(self):
        sheet = shop(shawl=(99, 99), rug=(99, 99))
        self.assertIs(bars(sheet, ("short", ("hat",))), False)
        self.assertIs(bars(sheet, ("short", ("rug", "scarf"))), False)
        self.assertIs(bars(sheet, ("short", ("hat", "rug", "shawl"))), False)

    def test_names_of_the_other_sort(self):
        sheet = shop(shawl=(99, 99), rug=(99, 99))
        self.assertIs(bars(sheet, ("short", ("ann",))), False)
        self.assertIs(bars(sheet, ("short", ("bob", "rug"))), False)
        self.assertIs(bars(sheet, ("short", ("ann",)), ["ann"]), False)

    def test_no_names(self):
        self.assertIs(bars(shop(shawl=(99, 99)), ("short", ())), False)
        self.assertIs(bars(Sheet(), ("short", ())), False)

    def test_whoever_is_to_be_fair(self):
        for fair in (None, [], ["ann"], ["ann", "bob", "cleo", "dora"]):
            self.assertIs(bars(shop(rug=(13, 13)), ("short", ("rug",)), fair), True)
            self.assertIs(bars(shop(rug=(12, 13)), ("short", ("rug",)), fair), False)

    def test_great_numbers(self):
        gives = [("ann", Span(0, GREAT), 0), ("bob", Span(GREAT), 0), ("bob", Span(GREAT), 0)]
        for yarn, wanted in ((3 * GREAT, False), (3 * GREAT + 1, True)):
            sheet = Sheet(gives, [("rug", Span(yarn, 10 ** 29), ["ann", "bob"])])
            self.assertIs(bars(sheet, ("short", ("rug",))), wanted)


class OverTest(unittest.TestCase):
    def test_one_home_by_one_dram(self):
        # ann must have put in 10 less the waste; only the shawl is ann's.
        self.assertIs(bars(shop(shawl=(0, 9)), ("over", ("ann",)), ["ann"]), True)
        self.assertIs(bars(shop(shawl=(0, 10)), ("over", ("ann",)), ["ann"]), False)
        self.assertIs(bars(shop(shawl=(0, 9), waste=1), ("over", ("ann",)), ["ann"]), False)
        self.assertIs(bars(shop(shawl=(0, 8), waste=1), ("over", ("ann",)), ["ann"]), True)

    def test_the_least_it_got_and_the_most_yarn_count(self):
        self.assertIs(bars(shop(shawl=(0, 10), ann=(10, 99)), ("over", ("ann",)), ["ann"]), False)
        self.assertIs(bars(shop(shawl=(9, 10), ann=(10, 10)), ("over", ("ann",)), ["ann"]), False)
        self.assertIs(bars(shop(shawl=(0, 10), ann=(11, 11)), ("over", ("ann",)), ["ann"]), True)

    def test_several_homes_by_one_dram(self):
        # ann 10, bob 6 - 2, cleo 3 - 1 against shawl and rug.
        homes = ("ann", "bob", "cleo")
        self.assertIs(bars(shop(shawl=(0, 10), rug=(0, 5)), ("over", homes), homes), True)
        self.assertIs(bars(shop(shawl=(0, 10), rug=(0, 6)), ("over", homes), homes), False)
        self.assertIs(bars(shop(shawl=(0, 10), rug=(0, 5)), ("over", ("ann", "bob")), homes), False)
        self.assertIs(bars(shop(shawl=(0, 10), rug=(0, 3)), ("over", ("ann", "bob")), homes), True)

    def test_a_home_without_pieces(self):
        gives = [("ann", Span(3, 9), 2), ("bob", Span(2, 9), 2)]
        self.assertIs(bars(Sheet(gives), ("over", ("ann",)), ["ann"]), True)
        self.assertIs(bars(Sheet(gives), ("over", ("bob",)), ["bob"]), False)

    def test_a_waste_greater_than_what_it_got_counts_as_nothing(self):
        sheet = Sheet([("ann", Span(5), 99), ("bob", Span(4), 0)],
                      [("hat", Span(0), ["ann"]), ("rug", Span(0, 3), ["bob"])])
        self.assertIs(bars(sheet, ("over", ("ann",)), ["ann", "bob"]), False)
        self.assertIs(bars(sheet, ("over", ("ann", "bob")), ["ann", "bob"]), True)

    def test_homes_that_are_not_to_be_fair(self):
        sheet = shop(shawl=(0, 0), rug=(0, 0))
        self.assertIs(bars(sheet, ("over", ("ann",))), False)
        self.assertIs(bars(sheet, ("over", ("ann",)), None), False)
        self.assertIs(bars(sheet, ("over", ("ann",)), []), False)
        self.assertIs(bars(sheet, ("over", ("ann",)), ["bob", "cleo"]), False)
        self.assertIs(bars(sheet, ("over", ("ann", "bob")), ["ann"]), False)
        self.assertIs(bars(sheet, ("over", ("ann", "bob")), ["ann", "bob"]), True)

    def test_fair_in_any_order_and_twice(self):
        sheet = shop(shawl=(0, 9))
        for fair in itertools.permutations(["ann", "bob", "bob", "ann"]):
            self.assertIs(bars(sheet, ("over", ("ann",)), list(fair)), True)
            self.assertIs(bars(sheet, ("over", ("ann",)), fair), True)
            self.assertIs(bars(sheet, ("over", ("bob",)), list(fair)), False)
            self.assertIs(bars(sheet, ("over", ("cleo",)), list(fair)), False)

    def test_names_that_do_not_rise_or_are_twice(self):
        sheet = shop(shawl=(0, 0), rug=(0, 0))
        fair = ["cleo", "bob", "ann"]
        self.assertIs(bars(sheet, ("over", ("ann", "bob", "cleo")), fair), True)
        self.assertIs(bars(sheet, ("over", ("bob", "ann")), fair), False)
        self.assertIs(bars(sheet, ("over", ("ann", "cleo", "bob")), fair), False)
        self.assertIs(bars(sheet, ("over", ("ann", "ann")), fair), False)
        self.assertIs(bars(sheet, ("over", ("ann", "ann")), ["ann", "ann"]), False)

    def test_strange_names_and_names_of_the_other_sort(self):
        sheet = shop(shawl=(0, 0), rug=(0, 0))
        fair = sheet.homes()
        self.assertIs(bars(sheet, ("over", ("eve",)), fair), False)
        self.assertIs(bars(sheet, ("over", ("ann", "eve")), fair), False)
        self.assertIs(bars(sheet, ("over", ("shawl",)), fair), False)
        self.assertIs(bars(sheet, ("over", ("ann", "rug")), fair), False)

    def test_no_names(self):
        self.assertIs(bars(shop(shawl=(0, 0)), ("over", ()), ["ann"]), False)
        self.assertIs(bars(Sheet(), ("over", ())), False)

    def test_great_numbers(self):
        gives = [("ann", Span(GREAT), 1), ("ann", Span(GREAT, 2 * GREAT), 2), ("bob", Span(GREAT), 0)]
        for yarn, wanted in ((3 * GREAT - 3, False), (3 * GREAT - 4, True)):
            sheet = Sheet(gives, [("rug", Span(0, yarn), ["ann", "bob"])])
            self.assertIs(bars(sheet, ("over", ("ann", "bob")), ["ann", "bob"]), wanted)


class AskedTest(unittest.TestCase):
    def test_by_names(self):
        self.assertIs(bars(fair=["ann"], paper=("over", ("ann",)), sheet=shop(shawl=(0, 9))), True)
        self.assertIs(bars(paper=("short", ("shawl",)), sheet=shop(shawl=(20, 20))), True)

    def test_other_words_bar_nothing(self):
        sheet = shop(shawl=(99, 99), rug=(0, 0))
        for names in (("shawl",), ("cleo",)):
            self.assertIs(bars(sheet, ("other", names), ["cleo"]), False)

    def test_a_home_and_a_piece_of_one_name(self):
        sheet = Sheet([("rug", Span(4), 0), ("ann", Span(1), 0)], [("ann", Span(5), ["rug"]), ("rug", Span(1), ["ann"])])
        self.assertIs(bars(sheet, ("short", ("ann",))), True)
        self.assertIs(bars(sheet, ("short", ("rug",))), False)
        self.assertIs(bars(sheet, ("over", ("ann",)), ["ann"]), False)
        self.assertIs(bars(sheet, ("over", ("rug",)), ["rug"]), False)

    def test_nothing_is_changed(self):
        sheet = shop(shawl=(0, 9))
        fair = ["bob", "ann", "bob"]
        first = bars(sheet, ("over", ("ann",)), fair)
        self.assertEqual(fair, ["bob", "ann", "bob"])
        self.assertIs(bars(sheet, ("over", ("ann",)), fair), first)
        self.assertEqual(sheet.homes(), ["ann", "bob", "cleo", "dora"])


if __name__ == "__main__":
    unittest.main()
