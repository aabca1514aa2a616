"""Bolts: promise [23], and [2] and [3] as far as they speak of bolts."""

import itertools
import random
import unittest

from yarnback.bolts import Bolt
from yarnback.errors import Beyond

GREAT = 999999999999999
SAMPLE = [("a", 0, 4), ("b", 7, 3), ("c", 2, 2)]


def ells_of(runs):
    """All ells of the runs, one by one."""
    ells = []
    for piece, first, last in runs:
        step = 1 if last >= first else -1
        ells += [(piece, ell) for ell in range(first, last + step, step)]
    return ells


def goes_on(ells):
    """Whether the ells go on by one step each in one direction in one piece."""
    pieces = {piece for piece, _ in ells}
    steps = {after[1] - ahead[1] for ahead, after in zip(ells, ells[1:])}
    return len(pieces) == 1 and steps in (set(), {1}, {-1})


def runs_of(ells):
    """The runs of the ells, straight by the document: each from the first on as many as can be."""
    runs = []
    left = list(ells)
    while left:
        many = max(size for size in range(1, len(left) + 1) if goes_on(left[:size]))
        runs.append((left[0][0], left[0][1], left[many - 1][1]))
        left = left[many:]
    return runs


def seen(bolt):
    return [bolt.spot(place) for place in range(len(bolt))]


def small_runs(chance):
    """Runs that often go on where the one ahead ends, or turn there."""
    runs = []
    for _ in range(chance.randint(0, 6)):
        first = chance.randint(0, 4)
        if runs and chance.random() < 0.7:
            first = max(0, runs[-1][2] + chance.choice([-1, -1, 0, 1, 1]))
        runs.append((chance.choice("aaaab"), first, max(0, first + chance.choice([-3, -2, -1, 0, 0, 0, 1, 2, 3]))))
    return runs


def all_small():
    """All bolts of up to two runs in the ells 0 to 2 of one piece, and some of another one."""
    parts = [("a", first, last) for first, last in itertools.product(range(3), repeat=2)] + [("b", 1, 1), ("b", 1, 2)]
    return [list(runs) for many in range(3) for runs in itertools.product(parts, repeat=many)]


class MadeTest(unittest.TestCase):
    def test_of_none(self):
        for bolt in (Bolt(), Bolt(None), Bolt([]), Bolt(()), Bolt(runs=None), Bolt(runs=[])):
            self.assertEqual(len(bolt), 0)
            self.assertFalse(bolt)
            self.assertEqual(bolt.runs(), [])
            self.assertEqual(str(bolt), "-")
            self.assertTrue(bolt == Bolt())

    def test_of_one_run(self):
        told = {
            ("a", 0, 4): ("a 0-4", [("a", 0), ("a", 1), ("a", 2), ("a", 3), ("a", 4)]),
            ("a", 4, 2): ("a 4-2", [("a", 4), ("a", 3), ("a", 2)]),
            ("rug", 7, 7): ("rug 7", [("rug", 7)]),
            ("rug", 0, 0): ("rug 0", [("rug", 0)]),
            ("b", 1, 0): ("b 1-0", [("b", 1), ("b", 0)]),
        }
        for run, (text, ells) in told.items():
            with self.subTest(run=run):
                bolt = Bolt([run])
                self.assertEqual(bolt.runs(), [run])
                self.assertEqual(str(bolt), text)
                self.assertEqual(len(bolt), len(ells))
                self.assertEqual(seen(bolt), ells)
                self.assertTrue(bolt)

    def test_of_several_runs(self):
        for runs in (SAMPLE, tuple(SAMPLE)):
            bolt = Bolt(runs)
            self.assertEqual(str(bolt), "a 0-4; b 7-3; c 2")
            self.assertEqual(bolt.runs(), SAMPLE)
            self.assertEqual(len(bolt), 11)
            self.assertEqual(seen(bolt), ells_of(SAMPLE))

    def test_the_same_ell_twice(self):
        bolt = Bolt([("a", 1, 1), ("a", 1, 1), ("a", 1, 1)])
        self.assertEqual(len(bolt), 3)
        self.assertEqual(bolt.runs(), [("a", 1, 1)] * 3)
        self.assertEqual(str(bolt), "a 1; a 1; a 1")
        self.assertEqual(str(Bolt([("a", 0, 2), ("a", 2, 0)])), "a 0-2; a 2-0")
        self.assertEqual(str(Bolt([("a", 0, 2), ("a", 0, 2)])), "a 0-2; a 0-2")

    def test_runs_is_a_list_of_tuples_of_plain_things(self):
        runs = Bolt(tuple(SAMPLE)).runs()
        self.assertIs(type(runs), list)
        self.assertEqual({type(run) for run in runs}, {tuple})
        self.assertIs(type(str(Bolt(SAMPLE))), str)

    def test_great_numbers(self):
        bolt = Bolt([("a", GREAT - 3, GREAT), ("b", GREAT, GREAT - 2)])
        self.assertEqual(str(bolt), f"a {GREAT - 3}-{GREAT}; b {GREAT}-{GREAT - 2}")
        self.assertEqual(len(bolt), 7)
        self.assertEqual(bolt.spot(6), ("b", GREAT - 2))

    def test_a_million_ells(self):
        bolt = Bolt([("a", 0, 499999), ("b", 499999, 0)])
        self.assertEqual(len(bolt), 1000000)
        self.assertEqual(bolt.spot(499999), ("a", 499999))
        self.assertEqual(bolt.spot(999999), ("b", 0))
        self.assertEqual(str(bolt.turned()), "b 0-499999; a 499999-0")
        self.assertEqual([len(half) for half in bolt.cut(600000)], [600000, 400000])

    def test_many_single_ells(self):
        bolt = Bolt([("a", ell, ell) for ell in range(100000)])
        self.assertEqual(bolt.runs(), [("a", 0, 99999)])
        scattered = Bolt([("a", 2 * ell, 2 * ell) for ell in range(100000)])
        self.assertEqual(len(scattered.runs()), 100000)
        self.assertEqual([scattered.spot(place)[1] for place in range(0, 100000, 7)], list(range(0, 200000, 14)))


class RunsTest(unittest.TestCase):
    def test_runs_that_go_on_by_one_step_are_told_as_one(self):
        told = {
            (("a", 0, 1), ("a", 2, 4)): [("a", 0, 4)],
            (("a", 0, 0), ("a", 1, 1), ("a", 2, 2)): [("a", 0, 2)],
            (("a", 4, 3), ("a", 2, 0)): [("a", 4, 0)],
            (("a", 4, 4), ("a", 3, 3)): [("a", 4, 3)],
            (("a", 0, 3), ("a", 4, 4)): [("a", 0, 4)],
            (("a", 3, 3), ("a", 4, 6)): [("a", 3, 6)],
            (("a", 3, 3), ("a", 2, 0)): [("a", 3, 0)],
        }
        for runs, joint in told.items():
            with self.subTest(runs=runs):
                self.assertEqual(Bolt(runs).runs(), joint)

    def test_the_first_one_has_as_many_as_can_be(self):
        told = {
            # The turning ell belongs to the run ahead where that goes on with it.
            (("a", 0, 4), ("a", 5, 3)): [("a", 0, 5), ("a", 4, 3)],
            (("a", 4, 2), ("a", 1, 3)): [("a", 4, 1), ("a", 2, 3)],
            (("a", 3, 3), ("a", 4, 2)): [("a", 3, 4), ("a", 3, 2)],
            (("a", 0, 4), ("a", 3, 1)): [("a", 0, 4), ("a", 3, 1)],
            (("a", 1, 1), ("a", 0, 0), ("a", 1, 1)): [("a", 1, 0), ("a", 1, 1)],
            (("a", 0, 0), ("a", 1, 0), ("a", 1, 0), ("a", 1, 1)): [("a", 0, 1), ("a", 0, 1), ("a", 0, 1)],
        }
        for runs, joint in told.items():
            with self.subTest(runs=runs):
                self.assertEqual(Bolt(runs).runs(), joint)

    def test_what_does_not_go_on_stays_apart(self):
        for runs in ([("a", 0, 1), ("b", 2, 4)], [("a", 0, 1), ("a", 3, 4)], [("a", 0, 1), ("a", 1, 2)],
                     [("a", 5, 3), ("a", 4, 6)], [("a", 0, 2), ("a", 1, 1)], [("a", 0, 0), ("b", 1, 1)]):
            with self.subTest(runs=runs):
                self.assertEqual(Bolt(runs).runs(), runs)

    def test_against_going_ell_by_ell(self):
        chance = random.Random(23)
        for runs in all_small() + [small_runs(chance) for _ in range(3000)]:
            bolt = Bolt(runs)
            ells = ells_of(runs)
            self.assertEqual(seen(bolt), ells)
            self.assertEqual(len(bolt), len(ells))
            self.assertEqual(bolt.runs(), runs_of(ells), runs)
            self.assertEqual(bool(bolt), bool(ells))


class EqualTest(unittest.TestCase):
    def test_equal_are_the_same_ells_in_the_same_order(self):
        chance = random.Random(5)
        bolts = [small_runs(chance) for _ in range(120)] + all_small()
        for one, other in itertools.product(bolts[:160], bolts[60:]):
            same = ells_of(one) == ells_of(other)
            self.assertIs(Bolt(one) == Bolt(other), same)
            self.assertIs(Bolt(one) != Bolt(other), not same)

    def test_runs_told_otherwise(self):
        self.assertTrue(Bolt([("a", 0, 4)]) == Bolt([("a", 0, 0), ("a", 1, 3), ("a", 4, 4)]))
        self.assertTrue(Bolt([("a", 0, 4), ("a", 5, 3)]) == Bolt([("a", 0, 5), ("a", 4, 3)]))
        self.assertFalse(Bolt([("a", 0, 4)]) == Bolt([("a", 4, 0)]))
        self.assertFalse(Bolt([("a", 0, 4)]) == Bolt([("b", 0, 4)]))
        self.assertFalse(Bolt([("a", 0, 4)]) == Bolt([("a", 0, 3)]))
        self.assertFalse(Bolt([("a", 0, 4)]) == Bolt())

    def test_equal_to_nothing_of_another_kind(self):
        class Like(list):
            def runs(self):
                return [("a", 0, 4)]

        bolt = Bolt([("a", 0, 4)])
        for other in ([("a", 0, 4)], (("a", 0, 4),), "a 0-4", 5, None, True, {"a": 4}, ("a", 0, 4), Like(), Bolt):
            with self.subTest(other=other):
                self.assertFalse(bolt == other)
                self.assertFalse(other == bolt)
                self.assertTrue(bolt != other)
        for other in ([], (), "", "-", 0, None, False):
            self.assertFalse(Bolt() == other)
        self.assertTrue(bolt in [None, 1, Bolt([("a", 0, 1), ("a", 2, 4)])])


class SpotTest(unittest.TestCase):
    def test_beyond(self):
        for runs in ([], [("a", 5, 5)], SAMPLE):
            bolt = Bolt(runs)
            for place in (len(bolt), len(bolt) + 1, -1, -len(bolt) - 1, -GREAT, GREAT):
                with self.subTest(runs=runs, place=place):
                    with self.assertRaises(Beyond) as caught:
                        bolt.spot(place)
                    self.assertEqual(vars(caught.exception), {"ell": place, "long": len(bolt)})

    def test_told_by_name_and_plain(self):
        spot = Bolt(SAMPLE).spot(ell=6)
        self.assertEqual(spot, ("b", 6))
        self.assertEqual([type(thing) for thing in spot], [str, int])
        self.assertIs(type(spot), tuple)


class CutTest(unittest.TestCase):
    def test_at_each_place(self):
        chance = random.Random(7)
        for runs in [SAMPLE] + all_small() + [small_runs(chance) for _ in range(500)]:
            bolt = Bolt(runs)
            ells = ells_of(runs)
            for at in range(len(ells) + 1):
                told = bolt.cut(at)
                self.assertIs(type(told), tuple)
                ahead, others = told
                self.assertEqual((seen(ahead), seen(others)), (ells[:at], ells[at:]))
                self.assertEqual((ahead.runs(), others.runs()), (runs_of(ells[:at]), runs_of(ells[at:])))
                self.assertTrue(ahead.joined(others) == bolt)
            self.assertEqual(seen(bolt), ells)

    def test_at_both_ends(self):
        bolt = Bolt(SAMPLE)
        self.assertEqual([str(half) for half in bolt.cut(0)], ["-", "a 0-4; b 7-3; c 2"])
        self.assertEqual([str(half) for half in bolt.cut(at=11)], ["a 0-4; b 7-3; c 2", "-"])
        self.assertEqual([str(half) for half in Bolt().cut(0)], ["-", "-"])
        self.assertEqual([str(half) for half in bolt.cut(5)], ["a 0-4", "b 7-3; c 2"])
        self.assertEqual([str(half) for half in bolt.cut(7)], ["a 0-4; b 7-6", "b 5-3; c 2"])

    def test_beyond(self):
        for runs in ([], [("a", 5, 5)], SAMPLE):
            bolt = Bolt(runs)
            for at in (len(bolt) + 1, -1, -len(bolt) - 1, GREAT, -GREAT):
                with self.subTest(runs=runs, at=at):
                    with self.assertRaises(Beyond) as caught:
                        bolt.cut(at)
                    self.assertEqual(vars(caught.exception), {"ell": at, "long": len(bolt)})


class JoinedTest(unittest.TestCase):
    def test_joined_and_turned(self):
        chance = random.Random(11)
        bolts = [SAMPLE, []] + [small_runs(chance) for _ in range(60)]
        for one, other in itertools.product(bolts, repeat=2):
            left, right = Bolt(one), Bolt(other)
            straight = ells_of(one) + ells_of(other)
            turned = ells_of(one) + ells_of(other)[::-1]
            for told, ells in ((left.joined(right), straight), (left.joined(right, False), straight),
                               (left.joined(right, True), turned), (left.joined(right, turned=True), turned)):
                self.assertEqual(seen(told), ells)
                self.assertEqual(told.runs(), runs_of(ells))
            self.assertEqual((seen(left), seen(right)), (ells_of(one), ells_of(other)))

    def test_joined_by_names(self):
        bolt = Bolt([("a", 0, 1)])
        self.assertEqual(str(bolt.joined(other=Bolt([("a", 2, 3)]))), "a 0-3")
        self.assertEqual(str(bolt.joined(turned=True, other=Bolt([("a", 3, 2)]))), "a 0-3")

    def test_joined_with_itself(self):
        bolt = Bolt([("a", 0, 2)])
        self.assertEqual(str(bolt.joined(bolt)), "a 0-2; a 0-2")
        self.assertEqual(str(bolt.joined(bolt, True)), "a 0-2; a 2-0")
        self.assertEqual(str(bolt), "a 0-2")

    def test_turned_about(self):
        chance = random.Random(13)
        for runs in [SAMPLE] + all_small() + [small_runs(chance) for _ in range(300)]:
            bolt = Bolt(runs)
            ells = ells_of(runs)
            self.assertEqual(seen(bolt.turned()), ells[::-1])
            self.assertEqual(bolt.turned().runs(), runs_of(ells[::-1]))
            self.assertTrue(bolt.turned().turned() == bolt)
            self.assertEqual(seen(bolt), ells)


class KeptTest(unittest.TestCase):
    def test_what_is_handed_in_is_kept_as_a_copy(self):
        runs = list(SAMPLE)
        bolt = Bolt(runs)
        runs.append(("d", 0, 9))
        runs[0] = ("e", 1, 1)
        self.assertEqual(str(bolt), "a 0-4; b 7-3; c 2")
        self.assertEqual(runs[1:], [("b", 7, 3), ("c", 2, 2), ("d", 0, 9)])

    def test_a_told_list_changed_changes_nothing(self):
        bolt = Bolt(SAMPLE)
        told = bolt.runs()
        told.clear()
        bolt.runs().append(("d", 0, 9))
        self.assertEqual(bolt.runs(), SAMPLE)
        self.assertEqual((len(bolt), str(bolt)), (11, "a 0-4; b 7-3; c 2"))

    def test_told_bolts_hang_on_nothing_told_later(self):
        bolt = Bolt(SAMPLE)
        ahead, others = bolt.cut(3)
        joined = others.joined(ahead, turned=True)
        texts = [str(ahead), str(others), str(joined)]
        for one in (ahead, others, joined, bolt):
            one.joined(bolt)
            one.turned()
            one.cut(1)
            one.runs().pop()
        self.assertEqual([str(ahead), str(others), str(joined)], texts)
        self.assertEqual(texts, ["a 0-2", "a 3-4; b 7-3; c 2", "a 3-4; b 7-3; c 2; a 2-0"])


if __name__ == "__main__":
    unittest.main()
