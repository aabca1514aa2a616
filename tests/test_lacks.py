"""Lacks, verdicts, and tales with a lack: promise [17], and what [4] says of them."""

import random
import unittest

from samples import GREAT, all_shares, changed, great_tale, lacks_with, make, small_sheets
from yarnback.errors import NoHome, Unfit
from yarnback.fitting import tale_of
from yarnback.lacks import lack_of, tale_with, verdict
from yarnback.papers import bars
from yarnback.sheets import Sheet
from yarnback.spans import Span
from yarnback.tales import fault_of, lack_in

SCALE = 10 ** 14

UNFIT = make([("ann", 3, 3, 0), ("bob", 9, 9, 0)], [("rug", 4, 5, "ann"), ("hat", 1, 2, "bob")])


def lacks_by_hand(sheet, home):
    """All that the home lacks in some tale, gone through one by one, rising."""
    return sorted({lack for shares in all_shares(sheet) for lack in lacks_with(sheet, shares, home)})


class SmallTest(unittest.TestCase):
    def fitting(self, many, seed):
        return [sheet for sheet in small_sheets(many, seed) if all_shares(sheet)]

    def test_spans_as_gone_through(self):
        for sheet in self.fitting(150, 21):
            for home in sheet.homes():
                lacks = lacks_by_hand(sheet, home)
                self.assertEqual(lack_of(sheet, home), Span(lacks[0], lacks[-1]))

    def test_verdicts_as_gone_through(self):
        seen = {"keeps": 0, "fair": 0, "may be": 0}
        for sheet in self.fitting(250, 22):
            for home in sheet.homes():
                lacks = lacks_by_hand(sheet, home)
                waste = sheet.waste(home)
                keeps = all(lack > waste for lack in lacks)
                fair = not any(lack > waste for lack in lacks)
                wanted = "keeps" if keeps else "fair" if fair else "may be"
                self.assertEqual(verdict(sheet, home), wanted)
                seen[wanted] += 1
        self.assertTrue(all(many > 30 for many in seen.values()), seen)

    def test_tales_with_each_lack_as_gone_through(self):
        for sheet in self.fitting(80, 23):
            for home in sheet.homes():
                lacks = lacks_by_hand(sheet, home)
                for lack in range(-2, sheet.got(home).most + 3):
                    tale = tale_with(sheet, home, lack)
                    self.assertEqual(tale is not None, lack in lacks)
                    if tale is not None:
                        self.assertIsNone(fault_of(sheet, tale))
                        self.assertEqual(lack_in(tale, home), lack)

    def test_great_numbers_as_small_ones(self):
        for sheet in self.fitting(60, 24):
            great = changed(sheet, scale=SCALE)
            for home in sheet.homes():
                small = lack_of(sheet, home)
                self.assertEqual(lack_of(great, home), Span(small.least * SCALE, small.most * SCALE))
                self.assertEqual(verdict(great, home), verdict(sheet, home))
                for lack in (small.least * SCALE, small.most * SCALE, (small.least + small.most) * SCALE // 2):
                    self.assertEqual(lack_in(tale_with(great, home, lack), home), lack)

    def test_refused_just_where_no_tale_fits(self):
        seen = 0
        for sheet in small_sheets(150, 25):
            if all_shares(sheet):
                continue
            seen += 1
            for home in sheet.homes():
                for ask in (lack_of, verdict, lambda sheet, home: tale_with(sheet, home, 0)):
                    with self.assertRaises(Unfit) as caught:
                        ask(sheet, home)
                    self.assertIs(bars(sheet, caught.exception.paper), True)
        self.assertGreater(seen, 20)


class HandTest(unittest.TestCase):
    def test_parts_that_nobody_weighed(self):
        sheet = make([("ann", 20, 22, 1), ("bob", 10, 10, 2)], [("rug", 24, 25, "ann bob"), ("hat", 2, 2, "bob")])
        # ann may have put in 16 to 22, bob 4 to 10.
        self.assertEqual(lack_of(sheet, "ann"), Span(0, 6))
        self.assertEqual(lack_of(sheet, "bob"), Span(0, 6))
        self.assertEqual([verdict(sheet, home) for home in ("ann", "bob")], ["may be", "may be"])

    def test_a_home_without_pieces_lacks_all(self):
        sheet = make([("ann", 3, 5, 2), ("ann", 1, 1, 0)], [])
        self.assertEqual(lack_of(sheet, "ann"), Span(4, 6))
        self.assertEqual(verdict(sheet, "ann"), "keeps")
        self.assertEqual(tale_with(sheet, "ann", 5), ((("ann", 5),), ()))

    def test_verdicts_by_one_dram(self):
        for waste, wanted in ((0, "keeps"), (3, "keeps"), (4, "may be"), (6, "may be"), (7, "fair"), (8, "fair")):
            sheet = make([("ann", 20, 21, waste)], [("rug", 14, 16, "ann")])
            self.assertEqual(lack_of(sheet, "ann"), Span(4, 7))
            self.assertEqual(verdict(sheet, "ann"), wanted)

    def test_one_lack_alone(self):
        for waste, wanted in ((3, "keeps"), (4, "fair")):
            sheet = make([("ann", 20, 20, waste)], [("rug", 16, 16, "ann")])
            self.assertEqual(lack_of(sheet, "ann"), Span(4))
            self.assertEqual(verdict(sheet, "ann"), wanted)

    def test_tales_at_both_ends_between_and_beside(self):
        sheet = make([("ann", 20, 22, 1), ("bob", 10, 10, 2)], [("rug", 24, 25, "ann bob"), ("hat", 2, 2, "bob")])
        for home in ("ann", "bob"):
            for lack in range(0, 7):
                tale = tale_with(sheet, home, lack)
                self.assertIsNone(fault_of(sheet, tale))
                self.assertEqual(lack_in(tale, home), lack)
            for lack in (-10 ** 16, -1, 7, 8, 22, 23, 10 ** 16, 10 ** 30):
                self.assertIsNone(tale_with(sheet, home, lack))

    def test_tales_are_tuples(self):
        sheet = make([("ann", 20, 20, 0)], [("rug", 16, 16, "ann")])
        self.assertEqual(tale_with(sheet, "ann", 4), ((("ann", 20),), (("rug", "ann", 16),)))

    def test_by_names(self):
        sheet = make([("ann", 20, 20, 0)], [("rug", 16, 16, "ann")])
        self.assertEqual(lack_of(home="ann", sheet=sheet), Span(4))
        self.assertEqual(verdict(home="ann", sheet=sheet), "keeps")
        self.assertEqual(tale_with(lack=4, home="ann", sheet=sheet), ((("ann", 20),), (("rug", "ann", 16),)))

    def test_a_home_and_a_piece_of_one_name(self):
        sheet = make([("rug", 4, 4, 0), ("ann", 3, 3, 0)], [("ann", 4, 4, "rug"), ("rug", 1, 1, "ann")])
        self.assertEqual((lack_of(sheet, "rug"), lack_of(sheet, "ann")), (Span(0), Span(2)))


class RefusedTest(unittest.TestCase):
    def asks(self):
        return (lack_of, verdict, lambda sheet, home: tale_with(sheet, home, 0),
                lambda sheet, home: tale_with(sheet, home, -1))

    def test_no_home(self):
        sheet = make([("ann", 20, 20, 0)], [("rug", 16, 16, "ann")])
        for ask in self.asks():
            for name in ("eve", "rug"):
                with self.assertRaises(NoHome) as caught:
                    ask(sheet, name)
                self.assertEqual(caught.exception.name, name)
            with self.assertRaises(NoHome):
                ask(Sheet(), "ann")

    def test_no_home_ahead_of_unfit(self):
        for ask in self.asks():
            for name in ("eve", "rug"):
                with self.assertRaises(NoHome) as caught:
                    ask(UNFIT, name)
                self.assertEqual(caught.exception.name, name)

    def test_unfit_also_of_homes_with_which_all_is_well(self):
        for ask in self.asks():
            for home in ("ann", "bob"):
                with self.assertRaises(Unfit) as caught:
                    ask(UNFIT, home)
                self.assertEqual(caught.exception.paper, ("short", ("rug",)))

    def test_wastes_make_no_sheet_unfit(self):
        sheet = make([("ann", 9, 9, 0)], [("rug", 0, 1, "ann")])
        self.assertEqual(verdict(sheet, "ann"), "keeps")

    def test_what_is_refused_or_told_changes_nothing(self):
        sheet = make([("ann", 20, 22, 1), ("bob", 10, 10, 2)], [("rug", 24, 25, "ann bob")])
        first = [lack_of(sheet, "ann"), tale_with(sheet, "ann", 3), verdict(sheet, "ann")]
        told = lack_of(sheet, "ann")
        told.least, told.most = 77, 78
        with self.assertRaises(NoHome):
            lack_of(sheet, "eve")
        self.assertEqual([lack_of(sheet, "ann"), tale_with(sheet, "ann", 3), verdict(sheet, "ann")], first)
        self.assertEqual((sheet.got("ann"), sheet.yarn("rug")), (Span(20, 22), Span(24, 25)))


class GreatTest(unittest.TestCase):
    """The ends of spans are held against tales that fit at them and papers that bar what is beyond."""

    def check_ends(self, sheet, home):
        lack = lack_of(sheet, home)
        for drams in (lack.least, lack.most, (lack.least + lack.most) // 2):
            tale = tale_with(sheet, home, drams)
            self.assertIsNone(fault_of(sheet, tale))
            self.assertEqual(lack_in(tale, home), drams)
        if lack.least > 0:
            self.check_barred(changed(sheet, wastes={home: lack.least - 1}), [home])
            self.assertIsNone(tale_with(sheet, home, lack.least - 1))
        self.assertIsNone(tale_with(sheet, home, lack.most + 1))
        if lack.most < sheet.got(home).most:
            # Who lacks one dram more puts in no more than one who got so much less.
            self.check_barred(changed(sheet, gots={home: Span(0, sheet.got(home).most - lack.most - 1)}), [])

    def check_barred(self, sheet, fair):
        word, paper = tale_of(sheet, fair)
        self.assertEqual(word, "barred")
        self.assertIs(bars(sheet, paper, fair), True)

    def test_known_tales(self):
        chance = random.Random(26)
        for _ in range(4):
            gives, pieces, tale = great_tale(chance)
            sheet = Sheet(gives, pieces)
            for home in sheet.homes():
                self.assertIs(lack_of(sheet, home).holds(lack_in(tale, home)), True)
            for home in chance.sample(sheet.homes(), 8):
                self.check_ends(sheet, home)

    def test_where_little_is_unknown(self):
        chance = random.Random(27)
        for _ in range(4):
            gives, pieces, tale = great_tale(chance, homes=12, pieces=20)
            loose = Sheet(gives, pieces)
            sheet = changed(loose, {home: Span(drams) for home, drams in tale[0]})
            for home in sheet.homes():
                self.assertIs(lack_of(sheet, home).holds(lack_in(tale, home)), True)
                self.check_ends(sheet, home)

    def test_sums_of_great_numbers(self):
        gives = [("ann", GREAT, GREAT, GREAT)] * 20 + [("bob", 0, GREAT, 0)] * 20
        sheet = make(gives, [("rug", 25 * GREAT, 25 * GREAT, "bob ann"), ("hat", GREAT, GREAT, "ann")])
        self.assertEqual(lack_of(sheet, "ann"), Span(0, 14 * GREAT))
        self.assertEqual(lack_of(sheet, "bob"), Span(0, 14 * GREAT))
        self.assertEqual((verdict(sheet, "ann"), verdict(sheet, "bob")), ("fair", "may be"))


if __name__ == "__main__":
    unittest.main()
