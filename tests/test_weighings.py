"""Where to weigh once more: promises [20], [21] and [22], and what [4] says of weighings."""

import itertools
import random
import unittest
from fractions import Fraction

from samples import GREAT, great_tale, make, small_sheets, subsets
from yarnback.errors import Crossed, Unsure
from yarnback.sheets import Sheet
from yarnback.tales import lack_in
from yarnback.weighings import cheapest, do_show, lets_by, things_of, worked_out

# ann and bob made the rug, bob and cleo the hat, dora nothing.
SHOP = make(
    [("dora", 1, 2, 0), ("bob", 9, 9, 0), ("ann", 9, 9, 0), ("cleo", 9, 9, 0)],
    [("rug", 2, 9, "bob ann"), ("hat", 2, 9, "bob cleo")],
)
ANN, BOB, CLEO, DORA = ("home", "ann"), ("home", "bob"), ("home", "cleo"), ("home", "dora")
RUG_BOB, RUG_ANN, HAT_BOB, HAT_CLEO = [("part", *part) for part in
                                       (("rug", "bob"), ("rug", "ann"), ("hat", "bob"), ("hat", "cleo"))]
ALL = [ANN, BOB, CLEO, DORA, RUG_BOB, RUG_ANN, HAT_BOB, HAT_CLEO]


def ends(thing):
    """What has the thing: a home its lack, a home and a piece a part."""
    if thing[0] == "home":
        return [("home", thing[1])]
    return [("home", thing[2]), ("piece", thing[1])]


def is_ring(things):
    """As [21] tells it."""
    had = [end for thing in things for end in ends(thing)]
    lacks = [thing for thing in things if thing[0] == "home"]
    return bool(things) and all(had.count(end) == 2 for end in had) and len(lacks) in (0, 2)


def rank_of(rows):
    """How many of the rows hang on no others."""
    rows = [[Fraction(number) for number in row] for row in rows]
    rank = 0
    for column in range(len(rows[0]) if rows else 0):
        pivot = next((at for at in range(rank, len(rows)) if rows[at][column] != 0), None)
        if pivot is None:
            continue
        rows[rank], rows[pivot] = rows[pivot], rows[rank]
        for at in range(rank + 1, len(rows)):
            by = rows[at][column] / rows[rank][column]
            rows[at] = [number - by * first for number, first in zip(rows[at], rows[rank])]
        rank += 1
    return rank


def ties_rank(things):
    """The rank of the ties of such things that aren't weighed: what is left one number for each is all of them."""
    nodes = sorted({end for thing in things for end in ends(thing)})
    return rank_of([[1 if node in ends(thing) else 0 for node in nodes] for thing in things])


def left_one_number(thing, hidden):
    return ties_rank([other for other in hidden if other != thing]) < ties_rank(hidden)


def without(things, chosen):
    return [thing for thing in things if thing not in chosen]


def sheets_to_weigh(many, seed, most):
    return [sheet for sheet in small_sheets(many, seed) if len(things_of(sheet)) <= most]


class ThingsTest(unittest.TestCase):
    def test_order(self):
        self.assertEqual(things_of(SHOP), ALL)
        self.assertEqual(things_of(sheet=SHOP), ALL)
        self.assertEqual(things_of(Sheet()), [])
        self.assertEqual(things_of(make([("b", 1, 1, 0), ("a", 1, 1, 0), ("b", 1, 1, 0)], [])),
                         [("home", "a"), ("home", "b")])

    def test_pieces_and_makers_as_told(self):
        sheet = make([("b", 1, 1, 0), ("a", 1, 1, 0)], [("z", 1, 1, "b a"), ("a", 1, 1, "a"), ("m", 1, 1, "a b")])
        wanted = [("home", "a"), ("home", "b"), ("part", "z", "b"), ("part", "z", "a"), ("part", "a", "a"),
                  ("part", "m", "a"), ("part", "m", "b")]
        self.assertEqual(things_of(sheet), wanted)

    def test_a_told_list_changed_changes_nothing(self):
        things_of(SHOP).clear()
        self.assertEqual(things_of(SHOP), ALL)
        self.assertIs(type(things_of(SHOP)), list)
        self.assertTrue(all(type(thing) is tuple for thing in things_of(SHOP)))


class ShowTest(unittest.TestCase):
    def test_by_hand(self):
        # Rings: ann's lack, the rug, bob's lack; cleo's, the hat, bob's; and ann's, both pieces, cleo's.
        self.assertIs(do_show(SHOP, []), False)
        self.assertIs(do_show(SHOP, [BOB]), False)
        self.assertIs(do_show(SHOP, [DORA]), False)
        self.assertIs(do_show(SHOP, [BOB, RUG_ANN]), True)
        self.assertIs(do_show(SHOP, [ANN, CLEO]), True)
        self.assertIs(do_show(SHOP, [RUG_ANN, HAT_CLEO]), True)
        self.assertIs(do_show(SHOP, [ANN, RUG_ANN]), False)
        self.assertIs(do_show(SHOP, [ANN, RUG_BOB]), False)
        self.assertIs(do_show(SHOP, ALL), True)
        self.assertIs(do_show(SHOP, [DORA, BOB, RUG_BOB]), True)

    def test_two_homes_of_two_pieces_close_a_ring_without_lacks(self):
        sheet = make([("a", 1, 1, 0), ("b", 1, 1, 0)], [("x", 1, 1, "a b"), ("y", 1, 1, "a b")])
        self.assertIs(do_show(sheet, [("home", "a"), ("home", "b")]), False)
        self.assertIs(do_show(sheet, [("home", "a"), ("part", "x", "b")]), True)
        self.assertIs(do_show(sheet, [("part", "x", "a"), ("part", "y", "a")]), True)

    def test_where_nothing_need_be_weighed(self):
        sheet = make([("a", 1, 1, 0), ("b", 1, 1, 0)], [("x", 1, 1, "a"), ("y", 1, 1, "a"), ("z", 1, 1, "b")])
        self.assertIs(do_show(sheet, []), True)
        self.assertIs(do_show(Sheet(), []), True)

    def test_a_home_and_a_piece_of_one_name(self):
        sheet = make([("a", 1, 1, 0), ("b", 1, 1, 0)], [("a", 1, 1, "b"), ("b", 1, 1, "a")])
        self.assertIs(do_show(sheet, []), True)
        self.assertEqual(cheapest(sheet), (0, [], []))

    def test_against_rings_and_ranks(self):
        seen = {True: 0, False: 0}
        for sheet in sheets_to_weigh(60, 41, 8):
            things = things_of(sheet)
            for weighed in subsets(things):
                hidden = without(things, weighed)
                wanted = not any(is_ring(some) for some in subsets(hidden))
                self.assertEqual(wanted, ties_rank(hidden) == len(hidden))
                self.assertIs(do_show(sheet, list(weighed)), wanted)
                seen[wanted] += 1
        self.assertTrue(all(many > 100 for many in seen.values()), seen)

    def test_things_told_twice_in_any_order_as_tuples(self):
        for things in ([BOB, RUG_ANN, BOB], [RUG_ANN, BOB, RUG_ANN, RUG_ANN], (RUG_ANN, BOB), (BOB, BOB, RUG_ANN)):
            self.assertIs(do_show(SHOP, things), True)
        for things in ([BOB, BOB], (RUG_ANN, RUG_ANN), [BOB, BOB, DORA]):
            self.assertIs(do_show(SHOP, things), False)
        self.assertIs(do_show(things=(BOB, RUG_ANN), sheet=SHOP), True)

    def test_what_is_handed_in_stays(self):
        things = [RUG_ANN, BOB, BOB]
        do_show(SHOP, things)
        self.assertEqual(things, [RUG_ANN, BOB, BOB])


class CheapestTest(unittest.TestCase):
    def check(self, sheet, price):
        """What is told is just as [21] tells it."""
        worth = price or (lambda thing: 1)
        cost, told, paper = cheapest(sheet, price)
        things = things_of(sheet)
        self.assertEqual((type(told), type(paper)), (list, list))
        self.assertEqual(cost, sum(worth(thing) for thing in told))
        self.assertEqual(told, [thing for thing in things if thing in told])
        self.assertIs(do_show(sheet, told), True)
        for thing in told:
            self.assertIs(do_show(sheet, without(told, [thing])), False)
        self.assertEqual([thing for thing, _ in paper], told)
        for thing, ring in paper:
            self.assertIs(type(ring), tuple)
            self.assertEqual(list(ring), [other for other in without(things, told) if other in ring])
            self.assertTrue(all(worth(other) >= worth(thing) for other in ring))
            self.assertTrue(is_ring([thing, *ring]))
        self.assertIs(lets_by(sheet, told, paper, price), True)
        return cost

    def test_all_choices_of_small_sheets(self):
        chance = random.Random(42)
        for sheet in sheets_to_weigh(80, 43, 9):
            things = things_of(sheet)
            showing = [chosen for chosen in subsets(things) if do_show(sheet, chosen)]
            for most in (0, 1, 2, 5, GREAT):
                prices = {thing: chance.randint(0, most) for thing in things}
                least = min(sum(prices[thing] for thing in chosen) for chosen in showing)
                self.assertEqual(self.check(sheet, lambda thing: prices[thing]), least)
            self.assertEqual(self.check(sheet, None), min(len(chosen) for chosen in showing))

    def test_by_hand(self):
        prices = {ANN: 5, BOB: 3, CLEO: 5, DORA: 0, RUG_BOB: 4, RUG_ANN: 4, HAT_BOB: 4, HAT_CLEO: 1}
        cost, told, paper = cheapest(SHOP, lambda thing: prices[thing])
        self.assertEqual((cost, told), (4, [BOB, HAT_CLEO]))
        self.assertEqual(paper, [(BOB, (ANN, RUG_BOB, RUG_ANN)), (HAT_CLEO, (ANN, CLEO, RUG_BOB, RUG_ANN, HAT_BOB))])

    def test_prices_told_and_not_told(self):
        self.assertEqual(cheapest(SHOP)[0], 2)
        self.assertEqual(cheapest(SHOP, None)[0], 2)
        self.assertEqual(cheapest(SHOP, lambda thing: 7)[0], 14)
        cost, told, _ = cheapest(sheet=SHOP, price=len)
        self.assertEqual((cost, without(told, [ANN, BOB, CLEO])), (4, []))
        self.assertEqual(cheapest(SHOP, lambda thing: 0)[0], 0)
        self.assertEqual(len(cheapest(SHOP, lambda thing: 0)[1]), 2)

    def test_prices_are_asked_of_things(self):
        asked = []

        def price(thing):
            asked.append(thing)
            return 1

        cheapest(SHOP, price)
        self.assertEqual(sorted(set(asked)), sorted(ALL))

    def test_nothing(self):
        self.assertEqual(cheapest(Sheet()), (0, [], []))
        self.assertEqual(cheapest(make([("a", 1, 1, 0)], [("x", 1, 1, "a")]), lambda thing: GREAT), (0, [], []))

    def test_many_things(self):
        chance = random.Random(44)
        for _ in range(5):
            gives, pieces, _ = great_tale(chance)
            sheet = Sheet(gives, pieces)
            prices = {thing: chance.choice([0, 1, 2, GREAT, chance.randint(0, GREAT)]) for thing in things_of(sheet)}
            self.check(sheet, lambda thing: prices[thing])
            self.check(sheet, None)
            self.check(sheet, len)

    def test_told_lists_changed_change_nothing(self):
        first = cheapest(SHOP)
        ahead = repr(first)
        told = cheapest(SHOP)
        told[1].clear()
        told[2].append("more")
        self.assertEqual(repr(first), ahead)
        self.assertEqual(cheapest(SHOP), first)


class PaperTest(unittest.TestCase):
    THINGS = [BOB, RUG_ANN]
    RING = (CLEO, HAT_BOB, HAT_CLEO)
    LONG = (ANN, CLEO, RUG_BOB, HAT_BOB, HAT_CLEO)

    def lets(self, wanted, things, paper, price=None):
        self.assertIs(lets_by(SHOP, things, paper, price), wanted)

    def test_by_hand(self):
        self.lets(True, self.THINGS, [(BOB, self.RING), (RUG_ANN, self.LONG)])
        self.lets(True, self.THINGS, [(RUG_ANN, self.LONG), (BOB, self.RING)])
        self.assertIs(lets_by(paper=[], things=[], sheet=Sheet()), True)
        paper = [(BOB, self.RING), (RUG_ANN, self.LONG)]
        self.assertIs(lets_by(price=None, paper=paper, things=self.THINGS, sheet=SHOP), True)

    def test_any_order_twice_and_tuples(self):
        for things in itertools.permutations([BOB, RUG_ANN, BOB]):
            for ring in itertools.permutations(self.RING):
                self.lets(True, list(things), [(RUG_ANN, self.LONG[::-1]), (BOB, ring)])
        self.lets(True, tuple(self.THINGS), ((BOB, self.RING), (RUG_ANN, self.LONG)))

    def test_things_that_do_not_show_all(self):
        self.lets(False, [BOB], [(BOB, self.RING)])
        self.lets(False, [], [])
        self.lets(False, [BOB, DORA], [(BOB, self.RING)])

    def test_more_things_than_need_be(self):
        for more in (ANN, CLEO, DORA, HAT_BOB):
            for ring in ((), self.RING, self.LONG, (ANN,), (RUG_BOB, RUG_ANN)):
                self.lets(False, self.THINGS + [more], [(BOB, self.RING), (RUG_ANN, self.LONG), (more, ring)])
        self.lets(False, self.THINGS + [DORA], [(BOB, self.RING), (RUG_ANN, self.LONG)])

    def test_tuples_left_out_twice_and_strange(self):
        one, other = (BOB, self.RING), (RUG_ANN, self.LONG)
        self.lets(False, self.THINGS, [])
        self.lets(False, self.THINGS, [one])
        self.lets(False, self.THINGS, [other])
        self.lets(False, self.THINGS, [one, other, one])
        self.lets(False, self.THINGS, [one, one])
        self.lets(False, self.THINGS + [BOB], [one, other, one])
        self.lets(False, self.THINGS, [one, other, (ANN, (BOB, RUG_ANN, RUG_BOB))])
        self.lets(False, self.THINGS, [one, (HAT_BOB, (BOB, CLEO, HAT_CLEO))])

    def test_rings_that_are_none(self):
        for at in range(3):
            self.lets(False, self.THINGS, [(BOB, self.RING[:at] + self.RING[at + 1:]), (RUG_ANN, self.LONG)])
        for more in (ANN, DORA, RUG_BOB):
            self.lets(False, self.THINGS, [(BOB, self.RING + (more,)), (RUG_ANN, self.LONG)])
        for at in range(3):
            self.lets(False, self.THINGS, [(BOB, self.RING + self.RING[at:at + 1]), (RUG_ANN, self.LONG)])
        self.lets(False, self.THINGS, [(BOB, self.RING * 2), (RUG_ANN, self.LONG)])
        self.lets(False, self.THINGS, [(BOB, ()), (RUG_ANN, self.LONG)])
        self.lets(False, self.THINGS, [(BOB, self.LONG), (RUG_ANN, self.RING)])

    def test_the_thing_itself_is_none_of_the_others(self):
        self.lets(False, self.THINGS, [(BOB, (BOB,) + self.RING), (RUG_ANN, self.LONG)])
        self.lets(False, self.THINGS, [(BOB, (BOB,)), (RUG_ANN, self.LONG)])

    def test_rings_with_things_that_are_told(self):
        # A ring it is, but ann's part is told, too.
        self.assertTrue(is_ring([BOB, ANN, RUG_BOB, RUG_ANN]))
        self.lets(False, self.THINGS, [(BOB, (ANN, RUG_BOB, RUG_ANN)), (RUG_ANN, self.LONG)])

    def test_more_than_two_lacks_are_no_ring(self):
        gives = [(home, 1, 1, 0) for home in "abcd"]
        sheet = make(gives, [("x", 1, 1, "a b"), ("y", 1, 1, "c d")])
        lacks = [("home", home) for home in "abcd"]
        ring = [("part", "x", "a"), ("part", "x", "b"), ("home", "b")]
        far = [("part", "y", "c"), ("part", "y", "d"), ("home", "d")]
        things = [lacks[0], lacks[2]]
        self.assertIs(lets_by(sheet, things, [(lacks[0], tuple(ring)), (lacks[2], tuple(far))]), True)
        both = tuple(ring + [("part", "y", "c"), ("part", "y", "d"), lacks[3]])
        self.assertIs(lets_by(sheet, things, [(lacks[0], both), (lacks[2], tuple(far))]), False)

    def test_prices_by_one(self):
        paper = [(BOB, self.RING), (RUG_ANN, self.LONG)]
        for thing in ALL:
            prices = {other: 3 for other in ALL}
            prices[thing] = 2
            in_ring = thing in self.RING or thing in self.LONG
            self.lets(not in_ring, self.THINGS, paper, lambda other: prices[other])
            prices[thing] = 4
            self.lets(thing not in self.THINGS, self.THINGS, paper, lambda other: prices[other])
        self.lets(True, self.THINGS, paper, lambda thing: 0)
        self.lets(False, self.THINGS, paper, len)
        self.lets(True, self.THINGS, paper, lambda thing: GREAT if thing in self.LONG else GREAT - 1)

    def test_papers_with_one_thing_otherwise(self):
        chance = random.Random(45)
        for sheet in small_sheets(60, 46):
            things = things_of(sheet)
            _, told, paper = cheapest(sheet)
            for at, (thing, ring) in enumerate(paper):
                for other in things:
                    otherwise = tuple(without(ring, [other])) if other in ring else ring + (other,)
                    rows = paper[:at] + [(thing, otherwise)] + paper[at + 1:]
                    # One thing more or less is never a ring, however it is turned.
                    self.assertIs(lets_by(sheet, told, chance.sample(rows, len(rows))), False)

    def test_just_where_each_ring_is_such_a_one(self):
        for sheet in sheets_to_weigh(25, 47, 7):
            things = things_of(sheet)
            for told in subsets(things):
                hidden = without(things, told)
                rings = [[ring for ring in subsets(hidden) if is_ring([thing, *ring])] for thing in told]
                wanted = do_show(sheet, told) and all(rings)
                paper = [(thing, found[0] if found else ()) for thing, found in zip(told, rings)]
                self.assertIs(lets_by(sheet, list(told), paper), wanted)

    def test_what_is_handed_in_stays(self):
        things, paper = [RUG_ANN, BOB, BOB], [(RUG_ANN, self.LONG), (BOB, self.RING)]
        lets_by(SHOP, things, paper)
        self.assertEqual((things, paper), ([RUG_ANN, BOB, BOB], [(RUG_ANN, self.LONG), (BOB, self.RING)]))


def numbers_of(sheet, chance, most):
    """Some numbers for all lacks and shares, with what the ties make of them."""
    numbers = {thing: chance.randint(0, most) for thing in things_of(sheet)}
    got = {home: 0 for home in sheet.homes()}
    yarn = {piece: 0 for piece in sheet.pieces()}
    for thing, many in numbers.items():
        got[thing[-1]] += many
        if thing[0] == "part":
            yarn[thing[1]] += many
    return numbers, got, yarn


class WorkedOutTest(unittest.TestCase):
    GOT = {"ann": 9, "bob": 20, "cleo": 30, "dora": 4}
    YARN = {"rug": 10, "hat": 25}

    def test_by_hand(self):
        wanted = {ANN: 2, BOB: 7, CLEO: 15, DORA: 4, RUG_BOB: 3, RUG_ANN: 7, HAT_BOB: 10, HAT_CLEO: 15}
        for shown in ([ANN, CLEO], [RUG_ANN, HAT_BOB], [BOB, HAT_CLEO], [BOB, RUG_BOB, DORA], ALL):
            told = worked_out(SHOP, self.GOT, self.YARN, {thing: wanted[thing] for thing in shown})
            self.assertEqual(told, wanted)
            self.assertIs(type(told), dict)

    def test_spans_are_not_asked(self):
        sheet = make([("ann", 3, 4, 0)], [("rug", 1, 2, "ann")])
        wanted = {("home", "ann"): 60, ("part", "rug", "ann"): 40}
        self.assertEqual(worked_out(sheet, {"ann": 100}, {"rug": 40}, {}), wanted)

    def test_nothing(self):
        self.assertEqual(worked_out(Sheet(), {}, {}, {}), {})
        self.assertEqual(worked_out(make([("ann", 3, 4, 0)], []), {"ann": 3}, {}, {}), {("home", "ann"): 3})

    def test_by_names(self):
        sheet = make([("ann", 3, 4, 0)], [])
        self.assertEqual(worked_out(shown={}, yarn={}, got={"ann": 3}, sheet=sheet), {("home", "ann"): 3})

    def test_whatever_shows_all(self):
        chance = random.Random(48)
        for sheet in sheets_to_weigh(60, 49, 7):
            numbers, got, yarn = numbers_of(sheet, chance, chance.choice([0, 1, 9, GREAT]))
            for shown in subsets(things_of(sheet)):
                if do_show(sheet, shown):
                    told = worked_out(sheet, got, yarn, {thing: numbers[thing] for thing in shown})
                    self.assertEqual(told, numbers)
                    self.assertEqual(list(told), things_of(sheet))

    def test_the_cheapest_of_great_sheets(self):
        chance = random.Random(50)
        for _ in range(4):
            gives, pieces, tale = great_tale(chance)
            sheet = Sheet(gives, pieces)
            yarn = {piece: sum(drams for name, _, drams in tale[1] if name == piece) for piece in sheet.pieces()}
            numbers = {("home", home): lack_in(tale, home) for home in sheet.homes()}
            numbers.update({("part", piece, home): drams for piece, home, drams in tale[1]})
            _, told, _ = cheapest(sheet)
            shown = {thing: numbers[thing] for thing in told}
            self.assertEqual(worked_out(sheet, dict(tale[0]), yarn, shown), numbers)

    def test_a_home_and_a_piece_of_one_name(self):
        sheet = make([("a", 1, 1, 0), ("b", 1, 1, 0)], [("a", 1, 1, "b"), ("b", 1, 1, "a")])
        told = worked_out(sheet, {"a": 7, "b": 9}, {"a": 4, "b": 3}, {})
        wanted = {("home", "a"): 4, ("home", "b"): 5, ("part", "a", "b"): 4, ("part", "b", "a"): 3}
        self.assertEqual(told, wanted)

    def test_what_is_handed_in_stays(self):
        got, yarn, shown = dict(self.GOT), dict(self.YARN), {ANN: 2, CLEO: 15}
        told = worked_out(SHOP, got, yarn, shown)
        self.assertEqual((got, yarn, shown), (self.GOT, self.YARN, {ANN: 2, CLEO: 15}))
        ahead = dict(told)
        told.clear()
        shown[ANN] = 3
        self.assertEqual(worked_out(SHOP, got, yarn, {ANN: 2, CLEO: 15}), ahead)
        shown = dict(ahead)
        told = worked_out(SHOP, got, yarn, shown)
        told[ANN] = 77
        self.assertEqual(shown, ahead)


class UnsureTest(unittest.TestCase):
    def unsure(self, thing, shown, got=None, yarn=None):
        got = got or {home: 9 for home in SHOP.homes()}
        with self.assertRaises(Unsure) as caught:
            worked_out(SHOP, got, yarn or {"rug": 9, "hat": 9}, {one: 1 for one in shown})
        self.assertEqual(vars(caught.exception), {"thing": thing})

    def test_the_first_in_order(self):
        self.unsure(ANN, [])
        self.unsure(ANN, [DORA])
        self.unsure(BOB, [ANN])
        self.unsure(BOB, [RUG_ANN])
        self.unsure(BOB, [ANN, RUG_BOB])
        self.unsure(ANN, [CLEO])
        self.unsure(ANN, [BOB])

    def test_things_that_are_left_one_number_are_passed_over(self):
        # ann's lack and bob's part hang on ann's part alone.
        self.unsure(BOB, [RUG_BOB])
        # All of ann's and of the rug is known, and bob's lack hangs on nothing else than cleo's.
        self.unsure(BOB, [ANN, RUG_ANN])
        sheet = make([("a", 1, 1, 0), ("b", 1, 1, 0), ("c", 1, 1, 0)], [("x", 1, 1, "b c"), ("y", 1, 1, "b c")])
        with self.assertRaises(Unsure) as caught:
            worked_out(sheet, {"a": 1, "b": 2, "c": 2}, {"x": 2, "y": 2}, {("home", "b"): 0, ("home", "c"): 0})
        self.assertEqual(caught.exception.thing, ("part", "x", "b"))

    def test_whatever_numbers_there_are(self):
        # With numbers from 0 on alone all would be 0.
        self.unsure(ANN, [], {home: 0 for home in SHOP.homes()}, {"rug": 0, "hat": 0})

    def test_ahead_of_crossed(self):
        self.unsure(BOB, [ANN, RUG_ANN], {"ann": 50, "bob": 9, "cleo": 9, "dora": 9})
        self.unsure(ANN, [], {home: 0 for home in SHOP.homes()}, {"rug": 5, "hat": 5})

    def test_against_ranks(self):
        seen = 0
        for sheet in sheets_to_weigh(50, 51, 7):
            things = things_of(sheet)
            numbers, got, yarn = numbers_of(sheet, random.Random(52), 9)
            for shown in subsets(things):
                hidden = without(things, shown)
                unsure = [thing for thing in hidden if not left_one_number(thing, hidden)]
                if unsure:
                    seen += 1
                    with self.assertRaises(Unsure) as caught:
                        worked_out(sheet, got, yarn, {thing: numbers[thing] for thing in shown})
                    self.assertEqual(caught.exception.thing, unsure[0])
        self.assertGreater(seen, 100)


class CrossedTest(unittest.TestCase):
    GOT = {"ann": 9, "bob": 20, "cleo": 30, "dora": 4}
    YARN = {"rug": 10, "hat": 25}
    NUMBERS = {ANN: 2, BOB: 7, CLEO: 15, DORA: 4, RUG_BOB: 3, RUG_ANN: 7, HAT_BOB: 10, HAT_CLEO: 15}

    def crossed(self, sheet, got, yarn, shown):
        with self.assertRaises(Crossed) as caught:
            worked_out(sheet, got, yarn, shown)
        self.assertIs(type(caught.exception), Crossed)
        self.assertEqual(vars(caught.exception), {})

    def test_numbers_that_would_be_below_0(self):
        self.crossed(SHOP, self.GOT, self.YARN, {ANN: 10, CLEO: 15})
        self.crossed(SHOP, self.GOT, self.YARN, {RUG_ANN: 9, HAT_CLEO: 26})
        self.crossed(SHOP, self.GOT, self.YARN, {RUG_ANN: 10, HAT_CLEO: 5})
        sheet = make([("ann", 3, 4, 0)], [("rug", 1, 2, "ann")])
        self.assertEqual(worked_out(sheet, {"ann": 5}, {"rug": 5}, {})[("home", "ann")], 0)
        self.crossed(sheet, {"ann": 5}, {"rug": 6}, {})

    def test_shares_below_0(self):
        sheet = make([("a", 1, 1, 0), ("b", 1, 1, 0)], [("x", 1, 1, "a b")])
        self.assertEqual(worked_out(sheet, {"a": 5, "b": 5}, {"x": 3}, {("home", "a"): 2})[("part", "x", "b")], 0)
        self.crossed(sheet, {"a": 5, "b": 5}, {"x": 3}, {("home", "a"): 1})

    def test_more_weighed_than_need_be(self):
        self.assertEqual(worked_out(SHOP, self.GOT, self.YARN, self.NUMBERS), self.NUMBERS)
        for thing in ALL:
            for by in (1, -1):
                self.crossed(SHOP, self.GOT, self.YARN, {**self.NUMBERS, thing: self.NUMBERS[thing] + by})

    def test_what_was_got_and_made_otherwise(self):
        for home in self.GOT:
            for by in (1, -1):
                self.crossed(SHOP, {**self.GOT, home: self.GOT[home] + by}, self.YARN, self.NUMBERS)
        for piece in self.YARN:
            for by in (1, -1):
                self.crossed(SHOP, self.GOT, {**self.YARN, piece: self.YARN[piece] + by}, self.NUMBERS)

    def test_hidden_things_that_do_not_add_up(self):
        # All lacks are known: what was put in is known for all homes together, and for all pieces.
        sheet = make([("a", 1, 1, 0), ("b", 1, 1, 0)], [("x", 1, 1, "a b")])
        shown = {("home", "a"): 1, ("home", "b"): 1}
        self.assertEqual(worked_out(sheet, {"a": 5, "b": 4}, {"x": 7}, shown)[("part", "x", "b")], 3)
        self.crossed(sheet, {"a": 5, "b": 4}, {"x": 8}, shown)
        self.crossed(sheet, {"a": 5, "b": 4}, {"x": 6}, shown)

    def test_all_small_numbers_gone_through(self):
        sheet = make([("a", 1, 1, 0), ("b", 1, 1, 0)], [("x", 1, 1, "a b"), ("y", 1, 1, "b")])
        things = things_of(sheet)
        can_be = {}
        for numbers in itertools.product(range(4), repeat=len(things)):
            row = dict(zip(things, numbers))
            lack_a, lack_b, xa, xb, yb = numbers
            can_be.setdefault((lack_a + xa, lack_b + xb + yb, xa + xb, yb), []).append(row)
        for key in itertools.product(range(4), repeat=4):
            got, yarn = {"a": key[0], "b": key[1]}, {"x": key[2], "y": key[3]}
            for drams in range(4):
                shown = {("part", "x", "b"): drams}
                rows = [row for row in can_be.get(key, []) if row[("part", "x", "b")] == drams]
                self.assertLessEqual(len(rows), 1)
                if rows:
                    self.assertEqual(worked_out(sheet, got, yarn, shown), rows[0])
                else:
                    self.crossed(sheet, got, yarn, shown)


if __name__ == "__main__":
    unittest.main()
