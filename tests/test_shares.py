"""Shares, splits and pays: promises [18] and [19], and what [4] says of pays."""

import random
import unittest

from samples import GREAT, all_shares, changed, great_tale, make, parts, small_sheets
from yarnback.errors import NoMaker, NoPiece, NothingMade, Unfit
from yarnback.fitting import tale_of
from yarnback.papers import bars
from yarnback.shares import pay_of, share_of, split
from yarnback.sheets import Sheet
from yarnback.spans import Span

SCALE = 10 ** 14

UNFIT = make([("ann", 3, 3, 0), ("bob", 9, 9, 0)], [("rug", 4, 5, "ann"), ("hat", 1, 2, "bob")])


def share_by_hand(sheet, part):
    shares = [shares[part] for shares in all_shares(sheet)]
    return Span(min(shares), max(shares))


class ShareTest(unittest.TestCase):
    def test_spans_as_gone_through(self):
        for sheet in small_sheets(150, 31):
            if all_shares(sheet):
                for part in parts(sheet):
                    self.assertEqual(share_of(sheet, *part), share_by_hand(sheet, part))

    def test_great_numbers_as_small_ones(self):
        for sheet in small_sheets(60, 32):
            if all_shares(sheet):
                great = changed(sheet, scale=SCALE)
                for part in parts(sheet):
                    small = share_of(sheet, *part)
                    self.assertEqual(share_of(great, *part), Span(small.least * SCALE, small.most * SCALE))

    def test_by_hand(self):
        sheet = make([("ann", 20, 22, 1), ("bob", 10, 10, 2)], [("rug", 24, 25, "ann bob"), ("hat", 2, 2, "bob")])
        self.assertEqual(share_of(sheet, "rug", "ann"), Span(16, 22))
        self.assertEqual(share_of(sheet, "rug", "bob"), Span(2, 8))
        self.assertEqual(share_of(sheet, "hat", "bob"), Span(2))
        self.assertEqual(share_of(home="ann", piece="rug", sheet=sheet), Span(16, 22))

    def test_a_home_and_a_piece_of_one_name(self):
        sheet = make([("rug", 4, 4, 0), ("ann", 3, 3, 0)], [("ann", 4, 4, "rug"), ("rug", 1, 1, "ann")])
        self.assertEqual((share_of(sheet, "ann", "rug"), share_of(sheet, "rug", "ann")), (Span(4), Span(1)))

    def test_known_tales_with_great_numbers(self):
        chance = random.Random(33)
        for _ in range(3):
            gives, pieces, tale = great_tale(chance)
            sheet = Sheet(gives, pieces)
            for piece, home, drams in chance.sample(tale[1], 40):
                share = share_of(sheet, piece, home)
                self.assertIs(share.holds(drams), True)
                self.check_most(sheet, piece, home, share.most)

    def check_most(self, sheet, piece, home, most):
        """That so much can be put in, and not one dram more: as a piece of the home's own, taken out of this one."""
        for own, wanted in ((most, "tale"), (most + 1, "barred")):
            yarn = sheet.yarn(piece)
            if own > yarn.most:
                continue
            rest = changed(sheet, yarns={piece: Span(max(0, yarn.least - own), yarn.most - own)})
            gives = [(name, rest.got(name), rest.waste(name)) for name in rest.homes()]
            pieces = [(name, rest.yarn(name), rest.makers(name)) for name in rest.pieces()]
            self.assertEqual(tale_of(Sheet(gives, pieces + [("own", Span(own), [home])]))[0], wanted)

    def test_told_anew_each_time(self):
        sheet = make([("ann", 20, 22, 1)], [("rug", 14, 16, "ann")])
        told = share_of(sheet, "rug", "ann")
        told.least, told.most = 3, 4
        self.assertEqual(share_of(sheet, "rug", "ann"), Span(14, 16))
        self.assertEqual(sheet.yarn("rug"), Span(14, 16))


class RefusedTest(unittest.TestCase):
    def refused(self, error, fields, ask, *handed):
        with self.assertRaises(error) as caught:
            ask(*handed)
        self.assertIs(type(caught.exception), error)
        self.assertEqual(vars(caught.exception), fields)

    def test_no_piece(self):
        sheet = make([("ann", 3, 3, 0)], [("rug", 2, 2, "ann")])
        for name in ("hat", "ann"):
            self.refused(NoPiece, {"name": name}, share_of, sheet, name, "ann")
            self.refused(NoPiece, {"name": name}, pay_of, sheet, name, 5)
            self.refused(NoPiece, {"name": name}, pay_of, sheet, name, 0)

    def test_no_maker(self):
        sheet = make([("ann", 3, 3, 0), ("bob", 3, 3, 0)], [("rug", 2, 2, "ann"), ("hat", 2, 2, "bob ann")])
        for name in ("bob", "eve", "rug"):
            self.refused(NoMaker, {"piece": "rug", "home": name}, share_of, sheet, "rug", name)
        self.assertEqual(share_of(sheet, "hat", "bob"), Span(1, 2))

    def test_unfit(self):
        paper = {"paper": ("short", ("rug",))}
        self.refused(Unfit, paper, share_of, UNFIT, "rug", "ann")
        self.refused(Unfit, paper, share_of, UNFIT, "hat", "bob")
        self.refused(Unfit, paper, pay_of, UNFIT, "rug", 5)
        self.refused(Unfit, paper, pay_of, UNFIT, "hat", 0)

    def test_unfit_papers_bar(self):
        seen = 0
        for sheet in small_sheets(80, 34):
            if not all_shares(sheet):
                for piece, home in parts(sheet):
                    seen += 1
                    for ask in (lambda: share_of(sheet, piece, home), lambda: pay_of(sheet, piece, 7)):
                        with self.assertRaises(Unfit) as caught:
                            ask()
                        self.assertIs(bars(sheet, caught.exception.paper), True)
        self.assertGreater(seen, 20)

    def test_which_goes_first(self):
        self.refused(NoPiece, {"name": "cap"}, share_of, UNFIT, "cap", "eve")
        self.refused(NoPiece, {"name": "cap"}, pay_of, UNFIT, "cap", 5)
        self.refused(NoMaker, {"piece": "rug", "home": "bob"}, share_of, UNFIT, "rug", "bob")
        self.refused(NoMaker, {"piece": "hat", "home": "eve"}, share_of, UNFIT, "hat", "eve")

    def test_unfit_ahead_of_nothing_made(self):
        sheet = make([("ann", 3, 3, 0)], [("rug", 4, 5, "ann"), ("hat", 0, 0, "ann")])
        self.refused(Unfit, {"paper": ("short", ("rug",))}, pay_of, sheet, "hat", 5)


class SplitTest(unittest.TestCase):
    def test_none_few_and_many(self):
        self.assertEqual(split(0, [1, 2, 3]), [0, 0, 0])
        self.assertEqual(split(1, [1, 2, 3]), [0, 0, 1])
        self.assertEqual(split(2, [1, 2, 3]), [0, 1, 1])
        self.assertEqual(split(5, [1, 2, 3]), [1, 2, 2])
        self.assertEqual(split(6, [1, 2, 3]), [1, 2, 3])
        self.assertEqual(split(100, [1, 2, 3]), [17, 33, 50])

    def test_equal_rests_go_to_the_first(self):
        self.assertEqual(split(1, [1, 1, 1]), [1, 0, 0])
        self.assertEqual(split(2, [1, 1, 1]), [1, 1, 0])
        self.assertEqual(split(4, [5, 5, 5]), [2, 1, 1])
        self.assertEqual(split(1, [2, 1, 2]), [1, 0, 0])
        self.assertEqual(split(2, [1, 2, 2, 1]), [0, 1, 1, 0])
        self.assertEqual(split(3, [2, 3, 3, 2]), [1, 1, 1, 0])

    def test_weights_of_0_get_nothing(self):
        self.assertEqual(split(7, [0, 3, 0]), [0, 7, 0])
        self.assertEqual(split(1, [0, 1, 1]), [0, 1, 0])
        self.assertEqual(split(3, [1, 0, 1]), [2, 0, 1])

    def test_one_weight(self):
        self.assertEqual(split(7, [1]), [7])
        self.assertEqual(split(7, [GREAT]), [7])

    def test_nothing_to_split_by(self):
        for weights in ([], [0], [0, 0, 0], ()):
            self.assertEqual(split(0, weights), [0] * len(weights))
            for pence in (1, GREAT):
                with self.assertRaises(NothingMade) as caught:
                    split(pence, weights)
                self.assertEqual(vars(caught.exception), {})

    def test_as_told_in_the_document(self):
        chance = random.Random(35)
        for _ in range(300):
            weights = [chance.choice([0, 1, 2, chance.randint(0, 30), chance.randint(0, GREAT)])
                       for _ in range(chance.randint(1, 8))]
            pence = chance.choice([0, 1, 7, chance.randint(0, 100), chance.randint(0, GREAT)])
            if sum(weights) > 0:
                self.check(pence, weights, split(pence, weights))

    def check(self, pence, weights, told):
        total = sum(weights)
        self.assertEqual(sum(told), pence)
        more = [part - pence * weight // total for part, weight in zip(told, weights)]
        self.assertTrue(all(one in (0, 1) for one in more))
        rests = [pence * weight % total for weight in weights]
        for at, one in enumerate(more):
            for later, other in enumerate(more):
                if other > one:
                    self.assertTrue(rests[later] > rests[at] or rests[later] == rests[at] and later < at)

    def test_great_numbers(self):
        self.assertEqual(split(GREAT, [1, 1]), [GREAT // 2 + 1, GREAT // 2])
        self.assertEqual(split(GREAT, [GREAT, 10 ** 29, 1]), [10, GREAT - 10, 0])
        self.assertEqual(split(3 * GREAT, [10 ** 29, 10 ** 29, 10 ** 29]), [GREAT] * 3)

    def test_lists_tuples_and_names(self):
        self.assertEqual(split(weights=(1, 2, 3), pence=5), [1, 2, 2])
        weights = [3, 1, 2]
        told = split(5, weights)
        self.assertIs(type(told), list)
        self.assertIs(type(split(0, (0, 0))), list)
        told.append(9)
        self.assertEqual(weights, [3, 1, 2])
        self.assertEqual(split(5, weights), [2, 1, 2])


class PayTest(unittest.TestCase):
    def test_by_the_greatest_shares(self):
        sheet = make([("ann", 20, 22, 1), ("bob", 10, 10, 2)], [("rug", 24, 25, "bob ann"), ("hat", 2, 2, "bob")])
        # bob could have put in 8, ann 22.
        self.assertEqual(pay_of(sheet, "rug", 30), [("bob", 8), ("ann", 22)])
        self.assertEqual(pay_of(sheet, "rug", 0), [("bob", 0), ("ann", 0)])
        self.assertEqual(pay_of(sheet, "rug", 31), [("bob", 8), ("ann", 23)])
        self.assertEqual(pay_of(sheet, "rug", 1), [("bob", 0), ("ann", 1)])
        self.assertEqual(pay_of(sheet, "hat", 7), [("bob", 7)])
        self.assertEqual(pay_of(pence=30, piece="rug", sheet=sheet), [("bob", 8), ("ann", 22)])

    def test_equal_makers(self):
        sheet = make([("ann", 9, 9, 0), ("bob", 9, 9, 0), ("cleo", 9, 9, 0)], [("rug", 5, 5, "cleo ann bob")])
        self.assertEqual(pay_of(sheet, "rug", 5), [("cleo", 2), ("ann", 2), ("bob", 1)])

    def test_as_gone_through(self):
        chance = random.Random(36)
        for sheet in small_sheets(120, 37):
            if not all_shares(sheet):
                continue
            for piece in sheet.pieces():
                makers = sheet.makers(piece)
                mosts = [share_by_hand(sheet, (piece, home)).most for home in makers]
                pence = chance.choice([0, 1, 10, GREAT])
                if sum(mosts) > 0 or pence == 0:
                    told = pay_of(sheet, piece, pence)
                    self.assertEqual(told, list(zip(makers, split(pence, mosts))))
                    self.assertEqual(sum(part for _, part in told), pence)

    def test_nothing_made(self):
        for sheet in (make([("ann", 5, 5, 0)], [("rug", 0, 0, "ann")]), make([("ann", 0, 0, 0)], [("rug", 0, 5, "ann")])):
            self.assertEqual(pay_of(sheet, "rug", 0), [("ann", 0)])
            with self.assertRaises(NothingMade):
                pay_of(sheet, "rug", 1)

    def test_great_numbers(self):
        sheet = make([("ann", GREAT, GREAT, 0), ("bob", 1, 1, 0)], [("rug", GREAT, GREAT, "ann bob")])
        self.assertEqual(pay_of(sheet, "rug", GREAT), [("ann", GREAT - 1), ("bob", 1)])

    def test_all_pays_of_a_great_sheet(self):
        gives, pieces, _ = great_tale(random.Random(38))
        sheet = Sheet(gives, pieces)
        for piece in sheet.pieces():
            makers = sheet.makers(piece)
            mosts = [share_of(sheet, piece, home).most for home in makers]
            if sum(mosts) > 0:
                self.assertEqual(pay_of(sheet, piece, GREAT), list(zip(makers, split(GREAT, mosts))))

    def test_told_is_a_list_of_tuples(self):
        sheet = make([("ann", 20, 22, 1)], [("rug", 14, 16, "ann")])
        told = pay_of(sheet, "rug", 9)
        self.assertIs(type(told), list)
        self.assertIs(type(told[0]), tuple)
        told.append("more")
        self.assertEqual(pay_of(sheet, "rug", 9), [("ann", 9)])


if __name__ == "__main__":
    unittest.main()
