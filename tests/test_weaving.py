"""Weavings and blame: promise [24], and [2] and [3] as far as they speak of them."""

import random
import unittest

from yarnback.bolts import Bolt
from yarnback.errors import Beyond
from yarnback.weaving import blame_of, maker_at

GREAT = 999999999999999
WEAVING = (("ann", 5), ("bob", 3), ("ann", 1))


class MakerTest(unittest.TestCase):
    def test_each_ell(self):
        makers = [maker_at(WEAVING, ell) for ell in range(9)]
        self.assertEqual(makers, ["ann"] * 5 + ["bob"] * 3 + ["ann"])
        self.assertEqual(maker_at(ell=5, weaving=WEAVING), "bob")
        self.assertEqual(maker_at(list(WEAVING), 7), "bob")

    def test_parts_of_a_single_ell(self):
        weaving = (("cleo", 1), ("ann", 1), ("bob", 1))
        self.assertEqual([maker_at(weaving, ell) for ell in range(3)], ["cleo", "ann", "bob"])
        self.assertEqual(maker_at((("ann", 1),), 0), "ann")

    def test_great_numbers(self):
        weaving = (("ann", GREAT), ("bob", GREAT), ("cleo", 1))
        ends = {0: "ann", GREAT - 1: "ann", GREAT: "bob", 2 * GREAT - 1: "bob", 2 * GREAT: "cleo"}
        for ell, home in ends.items():
            self.assertEqual(maker_at(weaving, ell), home)
        with self.assertRaises(Beyond) as caught:
            maker_at(weaving, 2 * GREAT + 1)
        self.assertEqual(vars(caught.exception), {"ell": 2 * GREAT + 1, "long": 2 * GREAT + 1})

    def test_beyond(self):
        for weaving, long in ((WEAVING, 9), ((("ann", 1),), 1)):
            for ell in (long, long + 1, -1, -long, -long - 1, GREAT, -GREAT):
                with self.subTest(weaving=weaving, ell=ell):
                    with self.assertRaises(Beyond) as caught:
                        maker_at(weaving, ell)
                    self.assertEqual(vars(caught.exception), {"ell": ell, "long": long})


class BlameTest(unittest.TestCase):
    weavings = {"a": WEAVING, "b": (("bob", 2), ("cleo", 7)), "c": (("dora", 3),)}
    bolt = Bolt([("a", 0, 4), ("b", 7, 1), ("a", 5, 8)])

    def check_beyond(self, weavings, ells, fields):
        with self.assertRaises(Beyond) as caught:
            blame_of(weavings, self.bolt, ells)
        self.assertEqual(vars(caught.exception), dict(zip(("ell", "long"), fields)))

    def test_each_place(self):
        makers = ["ann"] * 5 + ["cleo"] * 6 + ["bob"] + ["bob"] * 3 + ["ann"]
        for place, home in enumerate(makers):
            self.assertEqual(blame_of(self.weavings, self.bolt, [place]), {home: 1})
        told = blame_of(self.weavings, self.bolt, list(range(16)))
        self.assertEqual(told, {"ann": 6, "cleo": 6, "bob": 4})
        self.assertIs(type(told), dict)

    def test_places_told_twice_count_twice(self):
        self.assertEqual(blame_of(self.weavings, self.bolt, [0, 11, 0, 0, 12]), {"ann": 3, "bob": 2})
        self.assertEqual(blame_of(self.weavings, self.bolt, (4, 4)), {"ann": 2})

    def test_none(self):
        self.assertEqual(blame_of(self.weavings, self.bolt, []), {})
        self.assertEqual(blame_of({}, Bolt(), ()), {})

    def test_by_names(self):
        self.assertEqual(blame_of(ells=[5], bolt=self.bolt, weavings=self.weavings), {"cleo": 1})

    def test_the_same_ell_at_several_places(self):
        bolt = Bolt([("c", 1, 1), ("c", 1, 2), ("c", 2, 0)])
        self.assertEqual(blame_of(self.weavings, bolt, [0, 1, 2, 3, 4, 5]), {"dora": 6})

    def test_a_place_beyond_the_bolt_goes_first(self):
        short = {"a": (("ann", 1),), "b": (("bob", 1),)}
        self.check_beyond(short, [3, 4, 16], (16, 16))
        self.check_beyond(short, [3, 17, -1, 16], (17, 16))
        self.check_beyond(short, [3, -1, 16], (-1, 16))
        self.check_beyond(self.weavings, [0, 16, 99], (16, 16))

    def test_then_the_first_ell_beyond_its_weaving(self):
        short = {"a": (("ann", 1), ("cleo", 1)), "b": (("bob", 1),)}
        self.check_beyond(short, [0, 1, 3, 5], (3, 2))
        self.check_beyond(short, [0, 1, 5, 3], (7, 1))
        self.check_beyond(short, [15], (8, 2))
        self.assertEqual(blame_of(short, self.bolt, [0, 1, 1]), {"ann": 1, "cleo": 2})

    def test_nothing_handed_in_is_changed(self):
        weavings, ells = {"a": [("ann", 9)], "b": (("bob", 9),)}, [3, 5, 3]
        told = blame_of(weavings, self.bolt, ells)
        self.assertEqual(told, {"ann": 2, "bob": 1})
        told["ann"] = 7
        self.assertEqual(weavings, {"a": [("ann", 9)], "b": (("bob", 9),)})
        self.assertEqual(ells, [3, 5, 3])
        self.assertEqual(blame_of(weavings, self.bolt, ells), {"ann": 2, "bob": 1})

    def test_great_weavings(self):
        weavings = {"a": (("ann", GREAT - 2), ("bob", 2))}
        bolt = Bolt([("a", GREAT - 1, GREAT - 4)])
        self.assertEqual(blame_of(weavings, bolt, [0, 1, 2, 3, 3]), {"bob": 2, "ann": 3})

    def test_through_cuts_joins_and_turns(self):
        chance = random.Random(24)
        makers = {"a": [maker_at(WEAVING, ell) for ell in range(9)], "b": ["bob"] * 2 + ["cleo"] * 7}
        for _ in range(300):
            bolt = Bolt([("a", 0, 8)]).joined(Bolt([("b", 0, 8)]), chance.random() < 0.5)
            for _ in range(4):
                ahead, others = bolt.cut(chance.randint(0, len(bolt)))
                bolt = others.joined(ahead, chance.random() < 0.5)
            places = [chance.randrange(18) for _ in range(9)]
            homes = [makers[piece][ell] for piece, ell in [bolt.spot(place) for place in places]]
            self.assertEqual(blame_of(self.weavings, bolt, places), {home: homes.count(home) for home in set(homes)})


if __name__ == "__main__":
    unittest.main()
