"""Sheets: promise [13], and [2] and [3] as far as they speak of what is handed in and told, and of refusals."""

import unittest

from yarnback.errors import NoHome, NoPiece, Twice
from yarnback.sheets import Sheet
from yarnback.spans import Span

GREAT = 999999999999999
THIRTY_FIGURES = 987654321098765432109876543210

GIVES = [
    ("cleo", Span(30, 34), 3),
    ("ann", Span(10, 12), 1),
    ("bob", Span(20), 2),
    ("ann", Span(5), 0),
    ("dora", Span(0), 0),
]
PIECES = [
    ("shawl", Span(9, 11), ["bob", "ann"]),
    ("rug", Span(40), ["cleo"]),
    ("band", Span(0, 3), ["ann", "cleo", "bob"]),
]


def sample():
    return Sheet(GIVES, PIECES)


def all_told(sheet):
    """All that the sheet tells, as texts, which nothing can change."""
    homes = [(home, repr(sheet.got(home)), sheet.waste(home), repr(sheet.made_by(home))) for home in sheet.homes()]
    pieces = [(piece, repr(sheet.yarn(piece)), repr(sheet.makers(piece))) for piece in sheet.pieces()]
    return homes, pieces


class HomesTest(unittest.TestCase):
    def test_homes_rise(self):
        self.assertEqual(sample().homes(), ["ann", "bob", "cleo", "dora"])
        gives = [(name, Span(1), 0) for name in ("b", "ab", "z", "aa", "a", "ba")]
        self.assertEqual(Sheet(gives).homes(), ["a", "aa", "ab", "b", "ba", "z"])

    def test_got(self):
        sheet = sample()
        self.assertEqual(sheet.got("bob"), Span(20))
        self.assertEqual(sheet.got("cleo"), Span(30, 34))
        self.assertEqual(sheet.got("dora"), Span(0))

    def test_waste(self):
        sheet = sample()
        self.assertEqual([sheet.waste(home) for home in sheet.homes()], [1, 2, 3, 0])

    def test_a_home_given_several_times(self):
        gives = [("ann", Span(1, 2), 3), ("bob", Span(7), 7), ("ann", Span(10, 20), 30), ("ann", Span(100), 300)]
        sheet = Sheet(gives)
        self.assertEqual(sheet.homes(), ["ann", "bob"])
        self.assertEqual(sheet.got("ann"), Span(111, 122))
        self.assertEqual(sheet.waste("ann"), 333)
        self.assertEqual((sheet.got("bob"), sheet.waste("bob")), (Span(7), 7))

    def test_the_same_give_twice_counts_twice(self):
        sheet = Sheet([("ann", Span(3, 4), 5)] * 2)
        self.assertEqual((sheet.got("ann"), sheet.waste("ann")), (Span(6, 8), 10))

    def test_great_numbers(self):
        sheet = Sheet([("ann", Span(GREAT, THIRTY_FIGURES), GREAT), ("ann", Span(1, GREAT), GREAT)])
        self.assertEqual(sheet.got("ann"), Span(GREAT + 1, THIRTY_FIGURES + GREAT))
        self.assertEqual(sheet.waste("ann"), 2 * GREAT)

    def test_made_by_as_told(self):
        sheet = sample()
        self.assertEqual(sheet.made_by("ann"), ["shawl", "band"])
        self.assertEqual(sheet.made_by("bob"), ["shawl", "band"])
        self.assertEqual(sheet.made_by("cleo"), ["rug", "band"])
        self.assertEqual(sheet.made_by("dora"), [])


class PiecesTest(unittest.TestCase):
    def test_pieces_as_told(self):
        self.assertEqual(sample().pieces(), ["shawl", "rug", "band"])

    def test_yarn(self):
        sheet = sample()
        self.assertEqual([sheet.yarn(piece) for piece in sheet.pieces()], [Span(9, 11), Span(40), Span(0, 3)])

    def test_makers_as_told(self):
        sheet = sample()
        self.assertEqual(sheet.makers("shawl"), ["bob", "ann"])
        self.assertEqual(sheet.makers("rug"), ["cleo"])
        self.assertEqual(sheet.makers("band"), ["ann", "cleo", "bob"])

    def test_a_piece_and_a_home_may_have_one_name(self):
        sheet = Sheet([("ann", Span(4), 0), ("rug", Span(5), 1)], [("ann", Span(6), ["rug"]), ("rug", Span(7), ["ann"])])
        self.assertEqual((sheet.got("ann"), sheet.yarn("ann")), (Span(4), Span(6)))
        self.assertEqual((sheet.made_by("ann"), sheet.makers("ann")), (["rug"], ["rug"]))


class NothingTest(unittest.TestCase):
    def test_a_sheet_of_nothing(self):
        for sheet in (Sheet(), Sheet(None, None), Sheet([], []), Sheet((), ()), Sheet(gives=[]), Sheet(pieces=[])):
            self.assertEqual(sheet.homes(), [])
            self.assertEqual(sheet.pieces(), [])
            with self.assertRaises(NoHome):
                sheet.got("ann")
            with self.assertRaises(NoPiece):
                sheet.yarn("rug")

    def test_sheets_have_nothing_of_one_another(self):
        sample()
        self.assertEqual(Sheet().homes(), [])
        self.assertEqual(Sheet([("eve", Span(1), 0)]).homes(), ["eve"])

    def test_homes_without_pieces(self):
        sheet = Sheet(GIVES)
        self.assertEqual(sheet.pieces(), [])
        self.assertEqual([sheet.made_by(home) for home in sheet.homes()], [[], [], [], []])


class RefusedTest(unittest.TestCase):
    def refused(self, error, name, pieces):
        gives = [("ann", Span(9), 0), ("bob", Span(9), 0)]
        with self.assertRaises(error) as caught:
            Sheet(gives, pieces)
        self.assertIs(type(caught.exception), error)
        self.assertEqual(caught.exception.name, name)

    def test_a_piece_told_twice(self):
        self.refused(Twice, "rug", [("rug", Span(1), ["ann"]), ("rug", Span(1), ["ann"])])
        self.refused(Twice, "rug", [("rug", Span(1), ["ann"]), ("hat", Span(1), ["ann"]), ("rug", Span(2), ["bob"])])

    def test_a_maker_told_twice(self):
        self.refused(Twice, "ann", [("rug", Span(1), ["ann", "ann"])])
        self.refused(Twice, "bob", [("rug", Span(1), ["bob", "ann", "bob", "ann"])])

    def test_a_maker_that_is_no_home(self):
        self.refused(NoHome, "eve", [("rug", Span(1), ["eve"])])
        self.refused(NoHome, "eve", [("rug", Span(1), ["ann", "eve", "ivy"])])
        self.refused(NoHome, "rug", [("rug", Span(1), ["rug"])])
        with self.assertRaises(NoHome) as caught:
            Sheet(pieces=[("rug", Span(1), ["ann"])])
        self.assertEqual(caught.exception.name, "ann")

    def test_the_pieces_name_goes_ahead_of_its_makers(self):
        ahead = ("rug", Span(1), ["ann"])
        self.refused(Twice, "rug", [ahead, ("rug", Span(1), ["eve"])])
        self.refused(Twice, "rug", [ahead, ("rug", Span(1), ["bob", "bob"])])

    def test_maker_by_maker(self):
        self.refused(NoHome, "eve", [("rug", Span(1), ["ann", "eve", "ann"])])
        self.refused(Twice, "ann", [("rug", Span(1), ["ann", "ann", "eve"])])
        self.refused(NoHome, "eve", [("rug", Span(1), ["eve", "eve"])])

    def test_piece_by_piece(self):
        self.refused(NoHome, "eve", [("rug", Span(1), ["eve"]), ("rug", Span(1), ["ann"])])
        self.refused(Twice, "bob", [("rug", Span(1), ["bob", "bob"]), ("rug", Span(1), ["eve"])])
        self.refused(NoHome, "ivy", [("hat", Span(1), ["ann"]), ("rug", Span(1), ["ivy"]), ("hat", Span(1), ["eve"])])

    def test_the_same_makers_in_several_pieces_are_let(self):
        sheet = Sheet([("ann", Span(9), 0)], [("rug", Span(1), ["ann"]), ("hat", Span(1), ["ann"])])
        self.assertEqual(sheet.made_by("ann"), ["rug", "hat"])

    def test_asked_of_no_home(self):
        sheet = sample()
        for ask in (sheet.got, sheet.waste, sheet.made_by):
            for name in ("eve", "rug", "an", "anna"):
                with self.subTest(ask=ask.__name__, name=name):
                    with self.assertRaises(NoHome) as caught:
                        ask(name)
                    self.assertEqual(caught.exception.name, name)

    def test_asked_of_no_piece(self):
        sheet = sample()
        for ask in (sheet.yarn, sheet.makers):
            for name in ("hat", "ann", "ru", "rugs"):
                with self.subTest(ask=ask.__name__, name=name):
                    with self.assertRaises(NoPiece) as caught:
                        ask(name)
                    self.assertEqual(caught.exception.name, name)

    def test_what_is_refused_changes_nothing(self):
        sheet = sample()
        ahead = all_told(sheet)
        for ask in (sheet.got, sheet.waste, sheet.made_by, sheet.yarn, sheet.makers):
            with self.assertRaises(KeyError):
                ask("eve")
        self.assertEqual(all_told(sheet), ahead)


class HandedInTest(unittest.TestCase):
    def test_by_places_and_by_names(self):
        wanted = all_told(sample())
        self.assertEqual(all_told(Sheet(gives=GIVES, pieces=PIECES)), wanted)
        self.assertEqual(all_told(Sheet(pieces=PIECES, gives=GIVES)), wanted)
        self.assertEqual(all_told(Sheet(GIVES, pieces=PIECES)), wanted)
        sheet = sample()
        self.assertEqual(sheet.got(home="ann"), Span(15, 17))
        self.assertEqual(sheet.waste(home="ann"), 1)
        self.assertEqual(sheet.made_by(home="ann"), ["shawl", "band"])
        self.assertEqual(sheet.yarn(piece="rug"), Span(40))
        self.assertEqual(sheet.makers(piece="rug"), ["cleo"])

    def test_lists_and_tuples(self):
        pieces = tuple((name, yarn, tuple(makers)) for name, yarn, makers in PIECES)
        self.assertEqual(all_told(Sheet(tuple(GIVES), pieces)), all_told(sample()))

    def test_told_are_lists(self):
        for sheet in (sample(), Sheet(tuple(GIVES), tuple(PIECES)), Sheet()):
            self.assertIs(type(sheet.homes()), list)
            self.assertIs(type(sheet.pieces()), list)
        pieces = tuple((name, yarn, tuple(makers)) for name, yarn, makers in PIECES)
        self.assertIs(type(Sheet(GIVES, pieces).makers("rug")), list)
        self.assertIs(type(sample().made_by("ann")), list)
        self.assertIs(type(sample().made_by("dora")), list)

    def test_nothing_handed_in_is_changed(self):
        gives = [("ann", Span(1, 2), 3), ("ann", Span(4, 5), 6)]
        pieces = [("rug", Span(1), ["ann"])]
        ahead = repr((gives, pieces))
        all_told(Sheet(gives, pieces))
        with self.assertRaises(Twice):
            Sheet(gives, pieces * 2)
        self.assertEqual(repr((gives, pieces)), ahead)

    def test_what_is_kept_is_a_copy(self):
        got, more, yarn, makers = Span(1, 2), Span(3, 4), Span(5, 6), ["ann", "bob"]
        gives = [("ann", got, 1), ("bob", more, 2), ("ann", more, 3)]
        pieces = [("rug", yarn, makers)]
        sheet = Sheet(gives, pieces)
        ahead = all_told(sheet)
        for span in (got, more, yarn):
            span.least, span.most = 77, 99
        makers.append("eve")
        gives.append(("eve", Span(1), 1))
        pieces.append(("hat", Span(1), ["eve"]))
        self.assertEqual(all_told(sheet), ahead)
        makers.clear()
        gives.clear()
        pieces.clear()
        self.assertEqual(all_told(sheet), ahead)

    def test_changing_what_is_told_changes_no_later_answer(self):
        sheet = sample()
        ahead = all_told(sheet)
        lists = [sheet.homes(), sheet.pieces(), sheet.makers("shawl"), sheet.made_by("ann"), sheet.made_by("dora")]
        for told in lists:
            told.reverse()
            told.append("eve")
        for span in (sheet.got("ann"), sheet.got("bob"), sheet.yarn("rug")):
            span.least, span.most = 1000, 2000
        self.assertEqual(all_told(sheet), ahead)

    def test_what_was_told_stays(self):
        sheet = sample()
        told = [sheet.homes(), sheet.makers("shawl"), sheet.got("ann")]
        Sheet(GIVES + [("eve", Span(1), 1)], PIECES)
        all_told(sheet)
        self.assertEqual(told, [["ann", "bob", "cleo", "dora"], ["bob", "ann"], Span(15, 17)])


if __name__ == "__main__":
    unittest.main()
