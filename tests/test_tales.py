"""Tales: promise [14]."""

import copy
import unittest

from yarnback.sheets import Sheet
from yarnback.spans import Span
from yarnback.tales import fault_of, lack_in

SIXTEEN = 10 ** 16 - 1

# Told so that homes and pieces don't rise, and makers neither.
SHEET = Sheet(
    [("bob", Span(10, 12), 1), ("ann", Span(20, 25), 2), ("dora", Span(0, 3), 0)],
    [("shawl", Span(8, 9), ["bob", "ann"]), ("rug", Span(14, 16), ["ann"])],
)
GOT = (("ann", 22), ("bob", 10), ("dora", 0))
SHARES = (("shawl", "bob", 6), ("shawl", "ann", 3), ("rug", "ann", 14))


def tale(ann=22, bob=10, dora=0, bobs=6, anns=3, rug=14):
    got = (("ann", ann), ("bob", bob), ("dora", dora))
    return (got, (("shawl", "bob", bobs), ("shawl", "ann", anns), ("rug", "ann", rug)))


class FitsTest(unittest.TestCase):
    def test_tales_that_fit(self):
        self.assertEqual(tale(), (GOT, SHARES))
        for fits in (tale(), tale(ann=20), tale(ann=25, bob=12, dora=3), tale(bobs=9, anns=0), tale(bobs=8, anns=0)):
            with self.subTest(tale=fits):
                self.assertIsNone(fault_of(SHEET, fits))

    def test_at_the_ends(self):
        for fits in (tale(bob=10), tale(bob=12), tale(ann=20), tale(ann=25), tale(dora=0), tale(dora=3)):
            self.assertIsNone(fault_of(SHEET, fits))
        for fits in (tale(bobs=5, anns=3), tale(bobs=6, anns=3), tale(rug=14), tale(rug=16), tale(bobs=0, anns=8)):
            self.assertIsNone(fault_of(SHEET, fits))

    def test_lacking_nothing(self):
        self.assertIsNone(fault_of(SHEET, tale(ann=20, anns=4, bobs=4, rug=16)))

    def test_by_names(self):
        self.assertIsNone(fault_of(tale=tale(), sheet=SHEET))
        self.assertEqual(fault_of(tale=tale(dora=4), sheet=SHEET), ("got", "dora"))

    def test_a_sheet_of_nothing(self):
        self.assertIsNone(fault_of(Sheet(), ((), ())))
        self.assertEqual(fault_of(Sheet(), ((("ann", 0),), ())), ("form",))
        self.assertEqual(fault_of(Sheet(), ((), (("rug", "ann", 0),))), ("form",))

    def test_great_numbers(self):
        great = 10 ** 15 - 1
        sheet = Sheet([("ann", Span(great), 0), ("ann", Span(great), 0)], [("rug", Span(2 * great), ["ann"])])
        self.assertIsNone(fault_of(sheet, ((("ann", 2 * great),), (("rug", "ann", 2 * great),))))
        self.assertEqual(fault_of(sheet, ((("ann", 2 * great),), (("rug", "ann", 2 * great - 1),))), ("yarn", "rug"))


class FormTest(unittest.TestCase):
    def form(self, got, shares):
        self.assertEqual(fault_of(SHEET, (got, shares)), ("form",))

    def test_homes_left_out(self):
        for at in range(3):
            self.form(GOT[:at] + GOT[at + 1:], SHARES)
        self.form((), SHARES)

    def test_homes_twice(self):
        for at in range(3):
            self.form(GOT[:at] + GOT[at:at + 1] + GOT[at:], SHARES)
        self.form(GOT[:2] + GOT[:1], SHARES)

    def test_homes_exchanged(self):
        self.form((GOT[1], GOT[0], GOT[2]), SHARES)
        self.form(GOT[::-1], SHARES)

    def test_strange_homes(self):
        self.form(GOT + (("eve", 0),), SHARES)
        self.form((("amy", 22),) + GOT[1:], SHARES)
        self.form((("rug", 22),) + GOT[1:], SHARES)

    def test_shares_left_out(self):
        for at in range(3):
            self.form(GOT, SHARES[:at] + SHARES[at + 1:])
        self.form(GOT, ())

    def test_shares_twice(self):
        for at in range(3):
            self.form(GOT, SHARES[:at] + SHARES[at:at + 1] + SHARES[at:])

    def test_shares_exchanged(self):
        self.form(GOT, (SHARES[1], SHARES[0], SHARES[2]))
        self.form(GOT, (SHARES[2], SHARES[0], SHARES[1]))
        self.form(GOT, SHARES[::-1])

    def test_strange_shares(self):
        self.form(GOT, SHARES + (("rug", "bob", 0),))
        self.form(GOT, SHARES + (("hat", "ann", 0),))
        self.form(GOT, (("shawl", "dora", 6),) + SHARES[1:])
        self.form(GOT, (("hat", "bob", 6),) + SHARES[1:])
        self.form(GOT, (("bob", "shawl", 6),) + SHARES[1:])

    def test_nothing_at_all(self):
        self.form((), ())


class FaultTest(unittest.TestCase):
    def fault(self, wanted, **numbers):
        with self.subTest(**numbers):
            self.assertEqual(fault_of(SHEET, tale(**numbers)), wanted)

    def test_got_beside_its_span(self):
        self.fault(("got", "ann"), ann=19)
        self.fault(("got", "ann"), ann=26)
        self.fault(("got", "bob"), bob=9)
        self.fault(("got", "bob"), bob=13)
        self.fault(("got", "dora"), dora=4)
        self.fault(("got", "dora"), dora=-1)

    def test_shares_below_0(self):
        self.fault(("share", "shawl", "ann"), bobs=9, anns=-1)
        self.fault(("share", "shawl", "bob"), bobs=-1, anns=9, ann=23)
        self.fault(("share", "rug", "ann"), rug=-1)

    def test_yarn_beside_its_span(self):
        self.fault(("yarn", "shawl"), bobs=4, anns=3)
        self.fault(("yarn", "shawl"), bobs=7, anns=3)
        self.fault(("yarn", "rug"), rug=13)
        self.fault(("yarn", "rug"), rug=17)

    def test_lack_below_0(self):
        self.fault(("lack", "ann"), ann=20, anns=6, bobs=3, rug=15)
        sheet = Sheet([("ann", Span(5), 9), ("bob", Span(3), 9)], [("rug", Span(4), ["ann", "bob"])])
        fits = ((("ann", 5), ("bob", 3)), (("rug", "ann", 1), ("rug", "bob", 3)))
        self.assertIsNone(fault_of(sheet, fits))
        fault = fault_of(sheet, (fits[0], (("rug", "ann", 0), ("rug", "bob", 4))))
        self.assertEqual(fault, ("lack", "bob"))

    def test_numbers_below_0_and_of_sixteen_figures(self):
        self.fault(("got", "ann"), ann=-SIXTEEN)
        self.fault(("got", "bob"), bob=SIXTEEN)
        self.fault(("share", "rug", "ann"), rug=-SIXTEEN)
        self.fault(("yarn", "shawl"), bobs=SIXTEEN)
        self.fault(("share", "shawl", "bob"), bobs=-SIXTEEN, anns=SIXTEEN + 8)

    def test_lack_below_0_with_great_numbers(self):
        sheet = Sheet([("ann", Span(0, SIXTEEN), 0)], [("rug", Span(0, SIXTEEN + 1), ["ann"])])
        self.assertIsNone(fault_of(sheet, ((("ann", SIXTEEN),), (("rug", "ann", SIXTEEN),))))
        self.assertEqual(fault_of(sheet, ((("ann", SIXTEEN),), (("rug", "ann", SIXTEEN + 1),))), ("lack", "ann"))


class FirstFaultTest(unittest.TestCase):
    def first(self, wanted, **numbers):
        self.assertEqual(fault_of(SHEET, tale(**numbers)), wanted)

    def test_form_ahead_of_all(self):
        wrong = tale(ann=99, bob=-1, dora=9, bobs=-5, anns=70, rug=0)
        self.assertEqual(fault_of(SHEET, (wrong[0][::-1], wrong[1])), ("form",))
        self.assertEqual(fault_of(SHEET, (wrong[0], wrong[1][:2])), ("form",))

    def test_got_ahead_of_share_yarn_and_lack(self):
        self.first(("got", "dora"), dora=4, bobs=-1, anns=3, rug=50)
        self.first(("got", "ann"), ann=0, bobs=-1)
        self.first(("got", "bob"), bob=13, anns=20)

    def test_share_ahead_of_yarn_and_lack(self):
        self.first(("share", "rug", "ann"), rug=-1, bobs=80)
        self.first(("share", "shawl", "ann"), anns=-1, bobs=80, rug=99)

    def test_yarn_ahead_of_lack(self):
        self.first(("yarn", "shawl"), bobs=13)
        self.first(("yarn", "rug"), bob=10, bobs=9, anns=0, rug=26)
        sheet = Sheet([("ann", Span(1), 0)], [("hat", Span(2), ["ann"]), ("rug", Span(1), ["ann"])])
        self.assertEqual(fault_of(sheet, ((("ann", 1),), (("hat", "ann", 2), ("rug", "ann", 2)))), ("yarn", "rug"))

    def test_the_first_home_is_the_first_rising(self):
        self.first(("got", "ann"), ann=0, bob=0, dora=9)
        self.first(("got", "bob"), bob=0, dora=9)

    def test_the_first_share_is_the_first_as_told(self):
        self.first(("share", "shawl", "bob"), bobs=-1, anns=-1, rug=-1)
        self.first(("share", "shawl", "ann"), anns=-1, rug=-1)

    def test_the_first_yarn_is_the_first_as_told(self):
        self.first(("yarn", "shawl"), bobs=0, anns=0, rug=0)

    def test_the_first_lack_is_the_first_rising(self):
        sheet = Sheet([("bob", Span(1), 0), ("ann", Span(1), 0)],
                      [("hat", Span(2), ["bob"]), ("cap", Span(2), ["ann"])])
        shares = (("hat", "bob", 2), ("cap", "ann", 2))
        self.assertEqual(fault_of(sheet, ((("ann", 1), ("bob", 1)), shares)), ("lack", "ann"))


class LackTest(unittest.TestCase):
    def test_got_less_all_shares(self):
        self.assertEqual(lack_in(tale(), "ann"), 5)
        self.assertEqual(lack_in(tale(), "bob"), 4)
        self.assertEqual(lack_in(tale(), "dora"), 0)
        self.assertEqual(lack_in(tale(dora=3), "dora"), 3)
        self.assertEqual(lack_in(home="bob", tale=tale(bob=12, bobs=0)), 12)

    def test_below_0_and_great(self):
        self.assertEqual(lack_in(tale(bob=0), "bob"), -6)
        self.assertEqual(lack_in(tale(ann=SIXTEEN, anns=-SIXTEEN), "ann"), 2 * SIXTEEN - 14)
        self.assertEqual(lack_in(tale(bob=-SIXTEEN, bobs=SIXTEEN), "bob"), -2 * SIXTEEN)


class UnchangedTest(unittest.TestCase):
    def test_asking_changes_nothing(self):
        sheet = Sheet([("ann", Span(5), 1)], [("rug", Span(4), ["ann"])])
        asked = ((("ann", 5),), (("rug", "ann", 4),))
        ahead = copy.deepcopy(asked)
        for _ in range(3):
            self.assertIsNone(fault_of(sheet, asked))
            self.assertEqual(lack_in(asked, "ann"), 1)
        self.assertEqual(asked, ahead)
        self.assertEqual((sheet.homes(), sheet.pieces(), sheet.got("ann")), (["ann"], ["rug"], Span(5)))

    def test_faults_are_tuples(self):
        for asked in (((), ()), tale(ann=0), tale(rug=-1), tale(rug=0), tale(ann=20, anns=6, bobs=3, rug=15)):
            self.assertIs(type(fault_of(SHEET, asked)), tuple)


if __name__ == "__main__":
    unittest.main()
