"""A tale or a paper: promise [15], what [4] says of them, and [16] where papers are held against all tales."""

import random
import unittest

from samples import GREAT, all_papers, all_shares, changed, great_tale, make, small_sheets, some_tale_is_fair, subsets
from yarnback.fitting import tale_of
from yarnback.papers import bars
from yarnback.sheets import Sheet
from yarnback.spans import Span
from yarnback.tales import fault_of, lack_in


class TellTest(unittest.TestCase):
    """What is told is held against what it says itself."""

    def check(self, sheet, fair, wanted):
        told = tale_of(sheet, fair)
        self.assertIs(type(told), tuple)
        self.assertEqual(told[0], wanted)
        if wanted == "tale":
            self.check_tale(sheet, fair or [], told)
        else:
            self.check_paper(sheet, fair, told)

    def check_tale(self, sheet, fair, told):
        _, tale = told
        self.assertIsNone(fault_of(sheet, tale))
        for home in fair:
            self.assertLessEqual(lack_in(tale, home), sheet.waste(home))
        rows = [tale, tale[0], tale[1], *tale[0], *tale[1]]
        self.assertTrue(all(type(row) is tuple for row in rows))
        self.assertTrue(all(type(row[-1]) is int for row in tale[0] + tale[1]))

    def check_paper(self, sheet, fair, told):
        _, paper = told
        self.assertIs(bars(sheet, paper, fair), True)
        self.assertIs(type(paper), tuple)
        self.assertIs(type(paper[1]), tuple)


class SmallTest(TellTest):
    def fairs(self, sheet, chance):
        """All lists of homes to be fair, in some order, some of them twice."""
        for fair in subsets(sheet.homes()):
            yield chance.sample(fair, len(fair)) + chance.sample(fair, min(len(fair), chance.randint(0, 1)))

    def test_small_sheets_as_gone_through(self):
        chance = random.Random(1)
        seen = {"tale": 0, "short": 0, "over": 0}
        for sheet in small_sheets(150, 15):
            found = all_shares(sheet)
            for fair in self.fairs(sheet, chance):
                wanted = "tale" if some_tale_is_fair(sheet, fair, found) else "barred"
                self.check(sheet, fair, wanted)
                told = tale_of(sheet, fair)
                seen[told[0] if wanted == "tale" else told[1][0]] += 1
        self.assertTrue(all(many > 30 for many in seen.values()), seen)

    def test_a_paper_bars_just_where_no_tale_is(self):
        for sheet in small_sheets(60, 16):
            found = all_shares(sheet)
            for fair in subsets(sheet.homes()):
                barred = any(bars(sheet, paper, fair) for paper in all_papers(sheet, fair))
                self.assertIs(barred, not some_tale_is_fair(sheet, fair, found))


class HandTest(TellTest):
    def test_nothing(self):
        self.assertEqual(tale_of(Sheet()), ("tale", ((), ())))
        self.assertEqual(tale_of(Sheet(), []), ("tale", ((), ())))

    def test_one_tale_alone(self):
        sheet = make([("bob", 4, 4, 0), ("ann", 3, 3, 0)], [("rug", 2, 2, "bob"), ("hat", 5, 5, "bob ann")])
        got, shares = (("ann", 3), ("bob", 4)), (("rug", "bob", 2), ("hat", "bob", 2), ("hat", "ann", 3))
        self.assertEqual(tale_of(sheet), ("tale", (got, shares)))
        self.assertEqual(tale_of(sheet, ["ann", "bob"]), ("tale", (got, shares)))

    def test_one_paper_alone(self):
        sheet = make([("ann", 3, 3, 0), ("bob", 9, 9, 0)], [("rug", 4, 5, "ann"), ("hat", 1, 2, "bob")])
        self.assertEqual(tale_of(sheet), ("barred", ("short", ("rug",))))
        sheet = make([("ann", 3, 3, 0), ("bob", 9, 9, 0)], [("rug", 2, 2, "ann"), ("hat", 9, 9, "bob")])
        self.assertEqual(tale_of(sheet, ["bob", "ann"]), ("barred", ("over", ("ann",))))
        self.assertEqual(tale_of(sheet, ["bob"])[0], "tale")

    def test_names_in_papers_rise(self):
        sheet = make([("ann", 3, 3, 0)], [("rug", 2, 2, "ann"), ("hat", 2, 2, "ann")])
        self.assertEqual(tale_of(sheet), ("barred", ("short", ("hat", "rug"))))
        sheet = make([("bob", 3, 3, 0), ("ann", 3, 3, 0)], [("rug", 5, 5, "ann bob")])
        for fair in (["ann", "bob"], ["bob", "ann"], ["bob", "ann", "bob"], ("bob", "ann")):
            self.assertEqual(tale_of(sheet, fair), ("barred", ("over", ("ann", "bob"))))

    def test_only_homes_to_be_fair_stand_in_a_paper(self):
        # cleo takes room in the hat, but must put in nothing.
        sheet = make([("ann", 3, 3, 0), ("bob", 3, 3, 0), ("cleo", 9, 9, 0)], [("hat", 5, 5, "cleo ann bob")])
        self.check(sheet, ["ann", "bob"], "barred")
        self.check(sheet, ["ann", "cleo"], "barred")
        self.check(sheet, ["ann"], "tale")
        self.check(sheet, None, "tale")

    def test_pieces_of_one_maker_in_a_paper_with_others(self):
        # The hat wants nothing, but takes no room from the rug either.
        sheet = make([("ann", 3, 3, 0)], [("hat", 0, 9, "ann"), ("rug", 4, 9, "ann"), ("cap", 0, 0, "ann")])
        self.check(sheet, None, "barred")
        self.check(sheet, ["ann"], "barred")

    def test_by_one_dram(self):
        gives = [("ann", 10, 12, 3), ("bob", 5, 6, 1)]
        self.check(make(gives, [("rug", 18, 19, "ann bob")]), None, "tale")
        self.check(make(gives, [("rug", 19, 19, "ann bob")]), None, "barred")
        self.check(make(gives, [("rug", 0, 11, "ann bob")]), ["ann", "bob"], "tale")
        self.check(make(gives, [("rug", 0, 10, "ann bob")]), ["ann", "bob"], "barred")
        self.check(make(gives, [("rug", 0, 10, "ann bob")]), ["bob"], "tale")
        self.check(make(gives, [("rug", 0, 10, "ann bob")]), [], "tale")

    def test_fair_homes_that_got_less_than_they_put_in_at_most(self):
        sheet = make([("ann", 0, 9, 0)], [("rug", 4, 5, "ann")])
        self.check(sheet, ["ann"], "tale")
        self.check(make([("ann", 6, 9, 0)], [("rug", 4, 5, "ann")]), ["ann"], "barred")
        self.check(make([("ann", 6, 9, 1)], [("rug", 4, 5, "ann")]), ["ann"], "tale")

    def test_fair_by_places_and_by_names(self):
        sheet = make([("ann", 6, 9, 0)], [("rug", 4, 5, "ann")])
        self.assertEqual(tale_of(fair=["ann"], sheet=sheet), ("barred", ("over", ("ann",))))
        self.assertEqual(tale_of(sheet, None)[0], "tale")
        self.assertEqual(tale_of(sheet=sheet)[0], "tale")

    def test_a_home_and_a_piece_of_one_name(self):
        sheet = make([("rug", 4, 4, 0), ("ann", 1, 1, 0)], [("ann", 4, 4, "rug"), ("rug", 1, 1, "ann")])
        self.check(sheet, ["ann", "rug"], "tale")
        sheet = make([("rug", 4, 4, 0), ("ann", 1, 1, 0)], [("ann", 5, 5, "rug"), ("rug", 1, 1, "ann")])
        self.assertEqual(tale_of(sheet), ("barred", ("short", ("ann",))))

    def test_the_same_is_told_again(self):
        for sheet in small_sheets(20, 17):
            fair = sheet.homes()[::-1]
            first = tale_of(sheet, fair)
            ahead = repr((sheet.homes(), [sheet.got(home) for home in fair], sheet.pieces()))
            self.assertEqual(tale_of(sheet, fair), first)
            self.assertEqual(fair, sheet.homes()[::-1])
            self.assertEqual(repr((sheet.homes(), [sheet.got(home) for home in fair], sheet.pieces())), ahead)


class GreatTest(TellTest):
    def test_where_a_tale_is_known_one_is_told(self):
        chance = random.Random(18)
        for _ in range(12):
            gives, pieces, tale = great_tale(chance)
            sheet = Sheet(gives, pieces)
            self.assertIsNone(fault_of(sheet, tale))
            fair = [home for home in sheet.homes() if lack_in(tale, home) <= sheet.waste(home)]
            self.assertGreater(len(fair), 5)
            self.check(sheet, None, "tale")
            self.check(sheet, chance.sample(fair, len(fair)), "tale")
            self.check(sheet, fair + fair[:3], "tale")

    def test_long_ways(self):
        # Each piece is half full by one home and half by the next, to the dram.
        homes = [chr(97 + at // 10) + chr(97 + at % 10) for at in range(40)]
        gives = [(home, GREAT, GREAT, 0) for home in homes]
        pieces = [("p" + one, GREAT, GREAT, f"{one} {other}") for one, other in zip(homes[1:], homes)]
        pieces.append(("q", GREAT, GREAT, homes[0]))
        self.check(make(gives, pieces), homes, "tale")
        pieces[-1] = ("q", GREAT + 1, GREAT + 1, homes[0])
        self.check(make(gives, pieces), None, "barred")
        pieces[-1] = ("q", 0, GREAT - 1, homes[0])
        self.check(make(gives, pieces), homes, "barred")
        self.check(make(gives, pieces), homes[1:], "tale")

    def test_all_weighed_just_so_and_one_dram_beside(self):
        chance = random.Random(19)
        for _ in range(6):
            gives, pieces, tale = great_tale(chance)
            loose = Sheet(gives, pieces)
            gots = {home: Span(drams) for home, drams in tale[0]}
            yarns = {piece: Span(sum(drams for name, _, drams in tale[1] if name == piece)) for piece in loose.pieces()}
            wastes = {home: lack_in(tale, home) for home in loose.homes()}
            sheet = changed(loose, gots, wastes, yarns)
            self.check(sheet, sheet.homes(), "tale")
            # Nobody may lack more, so that one more dram of yarn can't have come, and one less can't have gone.
            piece = chance.choice(sheet.pieces())
            if yarns[piece].least > 0:
                less = changed(sheet, yarns={piece: Span(yarns[piece].least - 1)})
                self.check(less, sheet.homes(), "barred")
            some = next(home for home in sheet.homes() if wastes[home] > 0)
            self.check(changed(sheet, wastes={some: wastes[some] - 1}), sheet.homes(), "barred")

    def test_pieces_that_hold_more_than_all_got(self):
        chance = random.Random(20)
        for _ in range(6):
            gives, pieces, _ = great_tale(chance)
            sheet = Sheet(gives, pieces)
            piece = chance.choice(sheet.pieces())
            most = sum(sheet.got(home).most for home in sheet.makers(piece))
            self.check(changed(sheet, yarns={piece: Span(most + 1)}), None, "barred")

    def test_sums_of_many_great_numbers(self):
        gives = [("ann", GREAT, GREAT, 0)] * 30 + [("bob", GREAT, GREAT, GREAT)] * 30
        self.check(make(gives, [("rug", 60 * GREAT, 10 ** 29, "bob ann")]), ["ann", "bob"], "tale")
        self.check(make(gives, [("rug", 60 * GREAT + 1, 10 ** 29, "bob ann")]), None, "barred")
        self.check(make(gives, [("rug", 0, 30 * GREAT, "bob ann")]), ["ann", "bob"], "tale")
        self.check(make(gives, [("rug", 0, 30 * GREAT - 1, "bob ann")]), ["ann", "bob"], "barred")


if __name__ == "__main__":
    unittest.main()
